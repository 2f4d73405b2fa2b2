/- GraphRows walked. -/
import Derived.Test.YtnibokikmckfiaaLawGR
import Derived.Test.YtnibokikmckfiaaIdx
import Derived.Test.YtnibokikmckfiaaAwake5
import Derived.Test.YtnibokikmckfiaaR4
import Derived.Test.YtnibokikmckfiaaRegion2
import Derived.Deep.DeepCutAuto
import Derived.Deep.CutBlock
namespace Go.Proofs.Ytnibokikmckfiaa
open Go.RowKit Mile
/-- What each operation of the statement leaves. -/
def gw_r17_0_F (pe p bg nb eb eo fb fo j ed kp lo co ko : Nat) (ao : Option Addr) (ux uy uz : Int) : List (Value → World → Prop) :=
  [IsV (.bool true),
   IsV (.bool false),
   IsV (.bool false),
   IsV (.pointer (some ⟨nb, 0, none⟩)),
   IsV (.int .i64 (j : Int)),
   IsV (.int .i64 (j : Int)),
   IsV (.bool false),
   IsV (.bool false),
   IsV (.bool false),
   IsV (.int .i64 (ko : Int)),
   IsV (.bool true),
   IsV (.bool true),
   IsV (.slice ao lo co),
   IsV (.int .i64 (ko : Int)),
   IsV (.int .i64 (kp : Int)),
   IsV (.pointer (some ⟨fb, fo, none⟩)),
   IsV (.int .i64 (pe : Int)),
   IsV (.slice ao lo co),
   IsV (.int .i64 (ko : Int)),
   IsV (.pointer (some ⟨eb, eo, none⟩)),
   IsV (.int .i64 (ed : Int)),
   IsV (.bool false),
   IsV (.bool false),
   IsV (.bool false)]
def gw_r17_0_D : List (List Nat) := [[], [0], [1], [2], [2, 3], [2], [2, 4, 5], [2, 6], [7], [8], [8, 9], [8, 10], [11], [11], [11, 13], [11, 12, 14], [11, 15], [11], [11], [11, 17, 18], [11, 19], [11, 16, 20], [8, 11, 21], [8, 22]]

/-- What each operation of the statement leaves. -/
def gw_r17_1_F (pe p bg nb eb eo fb fo j ed kp lo co ko : Nat) (ao : Option Addr) (ux uy uz : Int) : List (Value → World → Prop) :=
  [IsV (.bool true),
   IsV (.bool false),
   IsV (.bool false),
   IsV (.pointer (some ⟨nb, 0, none⟩)),
   IsV (.int .i64 (j : Int)),
   IsV (.int .i64 (j : Int)),
   IsV (.bool false),
   IsV (.bool false),
   IsV (.bool false),
   IsV (.int .i64 0),
   IsV (.bool false),
   IsV (.bool false),
   IsV (undef),
   IsV (undef),
   IsV (undef),
   IsV (undef),
   IsV (undef),
   IsV (undef),
   IsV (undef),
   IsV (undef),
   IsV (undef),
   IsV (undef),
   IsV (.bool false),
   IsV (.bool false)]
def gw_r17_1_D : List (List Nat) := [[], [0], [1], [2], [2, 3], [2], [2, 4, 5], [2, 6], [7], [8], [8, 9], [8, 10], [11], [11], [11], [11], [11], [11], [11], [11], [11], [11], [8, 11, 21], [8, 22]]

/-- What each operation of the statement leaves. -/
def gw_r23_2_F (pe p bg nb eb eo fb fo j ed kp li ci ki : Nat) (ai : Option Addr) (ux uy uz : Int) : List (Value → World → Prop) :=
  [IsV (.bool true),
   IsV (.bool false),
   IsV (.bool false),
   IsV (.pointer (some ⟨nb, 1, none⟩)),
   IsV (.int .i64 (j : Int)),
   IsV (.int .i64 (j : Int)),
   IsV (.bool false),
   IsV (.bool false),
   IsV (.bool false),
   IsV (.int .i64 (ki : Int)),
   IsV (.bool true),
   IsV (.bool true),
   IsV (.slice ai li ci),
   IsV (.int .i64 (ki : Int)),
   IsV (.int .i64 (kp : Int)),
   IsV (.pointer (some ⟨fb, fo, none⟩)),
   IsV (.int .i64 (pe : Int)),
   IsV (.slice ai li ci),
   IsV (.int .i64 (ki : Int)),
   IsV (.pointer (some ⟨eb, eo, none⟩)),
   IsV (.int .i64 (ed : Int)),
   IsV (.bool false),
   IsV (.bool false),
   IsV (.bool false)]
def gw_r23_2_D : List (List Nat) := [[], [0], [1], [2], [2, 3], [2], [2, 4, 5], [2, 6], [7], [8], [8, 9], [8, 10], [11], [11], [11, 13], [11, 12, 14], [11, 15], [11], [11], [11, 17, 18], [11, 19], [11, 16, 20], [8, 11, 21], [8, 22]]

/-- What each operation of the statement leaves. -/
def gw_r23_3_F (pe p bg nb eb eo fb fo j ed kp li ci ki : Nat) (ai : Option Addr) (ux uy uz : Int) : List (Value → World → Prop) :=
  [IsV (.bool true),
   IsV (.bool false),
   IsV (.bool false),
   IsV (.pointer (some ⟨nb, 1, none⟩)),
   IsV (.int .i64 (j : Int)),
   IsV (.int .i64 (j : Int)),
   IsV (.bool false),
   IsV (.bool false),
   IsV (.bool false),
   IsV (.int .i64 0),
   IsV (.bool false),
   IsV (.bool false),
   IsV (undef),
   IsV (undef),
   IsV (undef),
   IsV (undef),
   IsV (undef),
   IsV (undef),
   IsV (undef),
   IsV (undef),
   IsV (undef),
   IsV (undef),
   IsV (.bool false),
   IsV (.bool false)]
def gw_r23_3_D : List (List Nat) := [[], [0], [1], [2], [2, 3], [2], [2, 4, 5], [2, 6], [7], [8], [8, 9], [8, 10], [11], [11], [11], [11], [11], [11], [11], [11], [11], [11], [8, 11, 21], [8, 22]]

set_option maxHeartbeats 64000000 in
set_option maxRecDepth 100000 in
theorem grows_all (w : World) (a0 : Option Addr) (m c0 : Nat) (l : List Int) (hm : l.length = m) (hr : Rd w 1 (.slice a0 m c0) m (l.map (Value.int .i64))) (odd : Int) :
    Calls Try.prog 4 #[.slice a0 m c0, .int .i64 odd] w fun e w' => e = .returned (.bool true) ∧ Mod (fun _ => False) w w' := by
  obtain ⟨iI, hiI, hzI, hsI, hbI⟩ := info_parts GR.infoI
  by_cases hlen : m ≤ 100
  case neg =>
    have HS : Hid (Ev (Mod (fun _ => False) w) w) := Lib.hid (Ev.mod w)
    have z0 : decide (100 < (m : Int)) = true := by simp; omega
    have z1 : decide (100 < m) = true := by simp; omega
    go_enter Try.func4, Try.ntmps4
    go_wp2_with fail
    refine (awake_any _).mono ?_
    rintro e wq1 ⟨rfl, hm⟩
    replace HS := Lib.hid (HS.out.step hm)
    clear hm
    go_wp2_with fail
    go_ret
    exact ⟨rfl, HS.out.now⟩
  have HS : Hid (Ev (Mod (fun _ => False) w) w) := Lib.hid (Ev.mod w)
  replace HS := Lib.hid ((Ev.rd hr).and HS.out)
  have z0 : decide (100 < (m : Int)) = false := by simp; omega
  have z1 : decide (100 < m) = false := by simp; omega
  go_enter Try.func4, Try.ntmps4
  go_wp2_with fail
  refine (town_gv _ a0 m c0 l hm ((HS.out.now).1)).mono ?_
  rintro e wq2 ⟨a1, n1, d1, a2, n2, d2, a3, n3, d3, rfl, hg, hmm⟩
  replace HS := Lib.hid (HS.out.step hmm)
  clear hmm
  replace HS := Lib.hid ((Ev.gv hg).and HS.out)
  clear hg z0 z1
  have hmay := Lib.hid (town_may l)
  have hfew := Lib.hid (town_few l)
  obtain ⟨G, hG⟩ : ∃ G, townG l = G := ⟨_, rfl⟩
  rw [hG] at hmay hfew
  rw [hG] at HS
  clear hG
  have hn := Lib.hid ((HS.out.now).1.n)
  have he := Lib.hid ((HS.out.now).1.e)
  have h2n : n1 ≤ 16 := by have := hfew.out.1.2; have := hn.out; omega
  have h3n : n2 ≤ 67 := by have := hfew.out.2.1.2; have := he.out; omega
  go_wp2_with fail
  obtain ⟨bg, hbg⟩ : ∃ b, wq2.heap.size = b := ⟨_, rfl⟩
  obtain ⟨wq3, hwq3⟩ : ∃ W, World.alloc wq2 (.cells #[.slice a1 n1 d1, .slice a2 n2 d2, .slice a3 n3 d3] 26) = W := ⟨_, rfl⟩
  have hBbg : Blk wq3 bg 26 [.slice a1 n1 d1, .slice a2 n2 d2, .slice a3 n3 d3] := by rw [← hwq3, ← hbg]; exact Blk.new _ 26 [.slice a1 n1 d1, .slice a2 n2 d2, .slice a3 n3 d3]
  have hzbg : wq3.heap.size = bg + 1 := by rw [← hwq3, ← hbg]; exact heap_size_alloc _ _
  replace HS := Lib.hid (HS.out.step (w' := wq3) (by rw [← hwq3]; exact Mod.alloc _ _ _))
  replace HS := Lib.hid ((Ev.blk hBbg).and HS.out)
  try rw [hwq3]
  try rw [hbg]
  clear hzbg hBbg hbg hwq3
  refine (new_ok G hmay.out _ a1 n1 d1 a2 n2 d2 a3 n3 d3 ((HS.out.now).2.1)).mono ?_
  rintro e wq4 ⟨p, B, C, rfl, hgo, hmm⟩
  replace HS := Lib.hid (HS.out.step hmm)
  clear hmm
  replace HS := Lib.hid ((Ev.go hgo).and HS.out)
  clear hgo
  have hbbg := (HS.out.now).2.1
  have qbg_0 := hbbg.cell 0 rfl
  have qbg_1 := hbbg.cell 1 rfl
  have qbg_2 := hbbg.cell 2 rfl
  have lbg := hbbg.lt
  clear hbbg
  go_wp2_with fail
  clear qbg_0 qbg_1 qbg_2 lbg
  replace HS := Lib.hid ((Ev.mod wq4).and HS.out)
  go_loopw [8, 9, 10] (fun sn sm i wr => ∃ j x y : Nat, j ≤ n1 ∧ i = .int .i64 j ∧ sn = .int .i64 x ∧ sm = .int .i64 y ∧ x = belowI (G.E.map (·.1)) j ∧ y = belowI (G.E.map (·.2.1)) j ∧ Mod (fun _ => False) wq4 wr) (fun _ _ i _ => n1 - (intOf i).toNat)
  case atStart => exact ⟨0, 0, 0, by omega, rfl, rfl, rfl, (below_zero (keysF hmay.out)).symm, (below_zero (keysT hmay.out)).symm, Mod.refl _ _⟩
  case round =>
    obtain ⟨j, x, y, hj, rfl, rfl, rfl, hx, hy, hmr⟩ := hrel
    obtain ⟨wo, hwo⟩ : ∃ x : World, x = wr := ⟨_, rfl⟩
    subst hwo
    have h4n : x ≤ 67 := by have := below_bound (G.E.map (·.1)) (j : Int); have h := he.out; rw [List.length_map] at this; omega
    have h5n : y ≤ 67 := by have := below_bound (G.E.map (·.2.1)) (j : Int); have h := he.out; rw [List.length_map] at this; omega
    have HX := Lib.hid hx
    have HY := Lib.hid hy
    clear hx hy
    replace HS := Lib.hid (HS.out.step hmr)
    clear hmr
    have hbbg := (HS.out.now).2.2.1
    have qbg_0 := hbbg.cell 0 rfl
    have qbg_1 := hbbg.cell 1 rfl
    have qbg_2 := hbbg.cell 2 rfl
    have lbg := hbbg.lt
    clear hbbg
    by_cases hlt : j < n1
    case pos =>
      have hjl : j < G.N.length := by rw [hn.out]; exact hlt
      have z0 : decide ((j : Int) < (n1 : Int)) = true := by simp; omega
      go_wp2_with fail
      refine (out_row p B C _ G ((HS.out.now).2.1) (j : Int)).mono ?_
      rintro e wq5 ⟨x', rfl, ⟨ao, co, rfl, hx'⟩, hmm⟩
      replace HS := Lib.hid (HS.out.step hmm)
      clear hmm
      replace HS := Lib.hid ((Ev.rd hx').and HS.out)
      clear hx'
      obtain ⟨lo, hlo⟩ : ∃ n, (gOut G (j : Int)).length = n := ⟨_, rfl⟩
      rw [hlo] at HS ⊢
      have h6n : lo ≤ 67 := by rw [← hlo]; have := gOut_len G (j : Int); have := he.out; omega
      have HLo := Lib.hid hlo
      clear hlo
      clear qbg_0 qbg_1 qbg_2 lbg
      have hbbg := (HS.out.now).2.2.2.1
      have qbg_0 := hbbg.cell 0 rfl
      have qbg_1 := hbbg.cell 1 rfl
      have qbg_2 := hbbg.cell 2 rfl
      have lbg := hbbg.lt
      clear hbbg
      go_wp2_with fail
      refine (in_row p B C _ G ((HS.out.now).2.2.1) (j : Int)).mono ?_
      rintro e wq6 ⟨x', rfl, ⟨ai, ci, rfl, hx'⟩, hmm⟩
      replace HS := Lib.hid (HS.out.step hmm)
      clear hmm
      replace HS := Lib.hid ((Ev.rd hx').and HS.out)
      clear hx'
      obtain ⟨li, hli⟩ : ∃ n, (gIn G (j : Int)).length = n := ⟨_, rfl⟩
      rw [hli] at HS ⊢
      have h7n : li ≤ 67 := by rw [← hli]; have := gIn_len G (j : Int); have := he.out; omega
      have HLi := Lib.hid hli
      clear hli
      clear qbg_0 qbg_1 qbg_2 lbg
      have hbbg := (HS.out.now).2.2.2.2.1
      have qbg_0 := hbbg.cell 0 rfl
      have qbg_1 := hbbg.cell 1 rfl
      have qbg_2 := hbbg.cell 2 rfl
      have lbg := hbbg.lt
      clear hbbg
      go_wp2_with fail
      clear qbg_0 qbg_1 qbg_2 lbg
      replace HS := Lib.hid ((Ev.mod wq6).and HS.out)
      go_loopw [13] (fun i wr => ∃ k : Nat, k ≤ lo ∧ i = .int .i64 k ∧ Mod (fun _ => False) wq6 wr) (fun i _ => lo - (intOf i).toNat)
      case atStart => exact ⟨0, by omega, rfl, Mod.refl _ _⟩
      case round =>
        obtain ⟨ko, hk, rfl, hmr⟩ := hrel
        obtain ⟨wio, hwo⟩ : ∃ x : World, x = wr := ⟨_, rfl⟩
        subst hwo
        replace HS := Lib.hid (HS.out.step hmr)
        clear hmr
        have hbbg := (HS.out.now).2.2.2.2.2.1
        have qbg_0 := hbbg.cell 0 rfl
        have qbg_1 := hbbg.cell 1 rfl
        have qbg_2 := hbbg.cell 2 rfl
        have lbg := hbbg.lt
        clear hbbg
        by_cases hlk : ko < lo
        case pos =>
          have z5 : decide ((ko : Int) < (lo : Int)) = true := by simp; omega
          have hkl : ko < (gOut G (j : Int)).length := by rw [HLo.out]; exact hlk
          obtain ⟨ed, hed, hel, hfl⟩ := gOut_at G j ko hkl
          obtain ⟨ux, hux⟩ : ∃ x, (G.E[ed]).1 = x := ⟨_, rfl⟩
          obtain ⟨uy, huy⟩ : ∃ x, (G.E[ed]).2.1 = x := ⟨_, rfl⟩
          obtain ⟨uz, huz⟩ : ∃ x, (G.E[ed]).2.2 = x := ⟨_, rfl⟩
          obtain rfl : ux = (j : Int) := by rw [← hux]; exact hfl
          have HUX := Lib.hid hux
          have HUY := Lib.hid huy
          have HUZ := Lib.hid huz
          have HED := Lib.hid hed
          clear hux huy huz hfl hed
          obtain ⟨eb, eo, hpl, e0⟩ := rd1 (HS.out.now).2.2.1 ko hkl
          have hix := fun wx => run_indexS (P := Try.prog) wx 50 3 iI 1 Try.underlying50 hiI hsI ao lo co ko hlk ((HS.out.now).2.2.1.some_ (by have := hlk; omega))
          rw [hpl] at hix
          have HIe := Lib.hid hix
          clear hix hpl
          rw [HED.out] at e0
          replace HS := Lib.hid ((Ev.cell e0).and HS.out)
          clear e0
          clear qbg_0 qbg_1 qbg_2 lbg
          have hbbg := (HS.out.now).2.2.2.2.2.2.1
          have qbg_0 := hbbg.cell 0 rfl
          have qbg_1 := hbbg.cell 1 rfl
          have qbg_2 := hbbg.cell 2 rfl
          have lbg := hbbg.lt
          clear hbbg
          have qe := (HS.out.now).1
          have hix := HIe.out
          go_wp2_with fail
          refine (edge_at p B C _ G ((HS.out.now).2.2.2.2.2.1) ed hel (j : Int) uy uz HUX.out HUY.out HUZ.out).mono ?_
          rintro e wq7 ⟨rfl, hmm⟩
          replace HS := Lib.hid (HS.out.step hmm)
          clear hmm
          clear qbg_0 qbg_1 qbg_2 lbg
          have hbbg := (HS.out.now).2.2.2.2.2.2.1
          have qbg_0 := hbbg.cell 0 rfl
          have qbg_1 := hbbg.cell 1 rfl
          have qbg_2 := hbbg.cell 2 rfl
          have lbg := hbbg.lt
          clear hbbg
          go_wp2_with fail
          obtain ⟨nb, hnb⟩ : ∃ b, wq7.heap.size = b := ⟨_, rfl⟩
          obtain ⟨wq8, hwq8⟩ : ∃ W, World.alloc wq7 (.cells #[.int .i64 (j : Int), .int .i64 uy, .int .i64 uz] 41) = W := ⟨_, rfl⟩
          have hBnb : Blk wq8 nb 41 [.int .i64 (j : Int), .int .i64 uy, .int .i64 uz] := by rw [← hwq8, ← hnb]; exact Blk.new _ 41 [.int .i64 (j : Int), .int .i64 uy, .int .i64 uz]
          have hznb : wq8.heap.size = nb + 1 := by rw [← hwq8, ← hnb]; exact heap_size_alloc _ _
          replace HS := Lib.hid (HS.out.step (w' := wq8) (by rw [← hwq8]; exact Mod.alloc _ _ _))
          replace HS := Lib.hid ((Ev.blk hBnb).and HS.out)
          try rw [hwq8]
          try rw [hnb]
          clear hznb hBnb hnb hwq8
          by_cases hk0 : 0 < ko
          case pos =>
            obtain ⟨kp, hkp⟩ : ∃ n, ko = n + 1 := ⟨ko - 1, by omega⟩
            have hkpl : kp < (gOut G (j : Int)).length := by omega
            obtain ⟨pe, hpe, _⟩ := gOut_at G j kp hkpl
            have hrise : (pe : Int) < (ed : Int) := by have h := gOut_rise G j kp (by omega); rw [hpe] at h; have := HED.out; simp only [hkp] at this; rw [this] at h; exact h
            have hkpo : kp < lo := by omega
            have HPE := Lib.hid hpe
            have HKP := Lib.hid hkp
            clear hpe hkp
            obtain ⟨fb, fo, hpl, e0⟩ := rd1 (HS.out.now).2.2.2.2.1 kp hkpl
            have hix := fun wx => run_indexS (P := Try.prog) wx 50 3 iI 1 Try.underlying50 hiI hsI ao lo co kp hkpo ((HS.out.now).2.2.2.2.1.some_ (by have := hkpo; omega))
            rw [hpl] at hix
            have HIf := Lib.hid hix
            clear hix hpl
            rw [HPE.out] at e0
            replace HS := Lib.hid ((Ev.cell e0).and HS.out)
            clear e0
            clear qbg_0 qbg_1 qbg_2 lbg
            go_upto_region 17 with fail
            have HSd := Lib.hid HS.out.drew
            refine wp_region_inv3 (act := ?actgw_r17_0) (Mod (fun _ => False)) (fun i => (gw_r17_0_F pe p bg nb eb eo fb fo j ed kp lo co ko ao 0 uy uz).getD i (fun _ _ => True)) (fun i => gw_r17_0_D.getD i []) (by kernel_rfl) (by kernel_rfl) (by kernel_rfl) (by kernel_rfl) (fun _ => Mod.refl _ _)
              (fun _ _ _ h k => h.trans k (fun _ _ e => e) (fun _ _ e => e)) ?hactgw_r17_0 (stable_list ?_) ?_ ?_
            case hactgw_r17_0 => intro vs; simp only [putAll, Nat.zero_add, Nat.reduceAdd, Act.put, List.setIfInBounds_toArray, List.set_cons_succ, List.set_cons_zero]; exact rfl
            · unfold gw_r17_0_F
              exact stable_cons (stable_val _) <| stable_cons (stable_val _) <| stable_cons (stable_val _) <| stable_cons (stable_val _) <| stable_cons (stable_val _) <| stable_cons (stable_val _) <| stable_cons (stable_val _) <| stable_cons (stable_val _) <| stable_cons (stable_val _) <| stable_cons (stable_val _) <| stable_cons (stable_val _) <| stable_cons (stable_val _) <| stable_cons (stable_val _) <| stable_cons (stable_val _) <| stable_cons (stable_val _) <| stable_cons (stable_val _) <| stable_cons (stable_val _) <| stable_cons (stable_val _) <| stable_cons (stable_val _) <| stable_cons (stable_val _) <| stable_cons (stable_val _) <| stable_cons (stable_val _) <| stable_cons (stable_val _) <| stable_cons (stable_val _) <| stable_nil
            · refine opsOkA_cons ?_ ?_
              · intro K vs W hR hD hK
                clear hD
                try dsimp only at hK ⊢
                simp only [Act.put, List.setIfInBounds_toArray, List.set_cons_succ, List.set_cons_zero] at hK
                go_wp2
                exact hK _ _ rfl (Mod.refl _ _)
              refine opsOkA_cons ?_ ?_
              · intro K vs W hR hD hK
                have d0 : vs 0 = .bool true := hD 0 (by decide)
                clear hD
                try dsimp only at hK ⊢
                simp only [Act.put, List.setIfInBounds_toArray, List.set_cons_succ, List.set_cons_zero] at hK
                generalize vs 0 = v0 at hK d0 ⊢
                subst v0
                go_wp2
                exact hK _ _ rfl (Mod.refl _ _)
              refine opsOkA_cons ?_ ?_
              · intro K vs W hR hD hK
                have d1 : vs 1 = .bool false := hD 1 (by decide)
                clear hD
                try dsimp only at hK ⊢
                simp only [Act.put, List.setIfInBounds_toArray, List.set_cons_succ, List.set_cons_zero] at hK
                generalize vs 1 = v1 at hK d1 ⊢
                subst v1
                go_wp2
                exact hK _ _ rfl (Mod.refl _ _)
              refine opsOkA_cons ?_ ?_
              · intro K vs W hR hD hK
                have d2 : vs 2 = .bool false := hD 2 (by decide)
                clear hD
                try dsimp only at hK ⊢
                simp only [Act.put, List.setIfInBounds_toArray, List.set_cons_succ, List.set_cons_zero] at hK
                generalize vs 2 = v2 at hK d2 ⊢
                subst v2
                go_wp2
                exact hK _ _ rfl (Mod.refl _ _)
              refine opsOkA_cons ?_ ?_
              · intro K vs W hR hD hK
                have d2 : vs 2 = .bool false := hD 2 (by decide)
                have d3 : vs 3 = .pointer (some ⟨nb, 0, none⟩) := hD 3 (by decide)
                clear hD
                try dsimp only at hK ⊢
                simp only [Act.put, List.setIfInBounds_toArray, List.set_cons_succ, List.set_cons_zero] at hK
                generalize vs 2 = v2 at hK d2 ⊢
                subst v2
                generalize vs 3 = v3 at hK d3 ⊢
                subst v3
                have q0 := ((HSd.out.at (hR)).2.1).cell 0 rfl
                go_wp2
                exact hK _ _ rfl (Mod.refl _ _)
              refine opsOkA_cons ?_ ?_
              · intro K vs W hR hD hK
                have d2 : vs 2 = .bool false := hD 2 (by decide)
                clear hD
                try dsimp only at hK ⊢
                simp only [Act.put, List.setIfInBounds_toArray, List.set_cons_succ, List.set_cons_zero] at hK
                generalize vs 2 = v2 at hK d2 ⊢
                subst v2
                go_wp2
                exact hK _ _ rfl (Mod.refl _ _)
              refine opsOkA_cons ?_ ?_
              · intro K vs W hR hD hK
                have d2 : vs 2 = .bool false := hD 2 (by decide)
                have d4 : vs 4 = .int .i64 (j : Int) := hD 4 (by decide)
                have d5 : vs 5 = .int .i64 (j : Int) := hD 5 (by decide)
                clear hD
                try dsimp only at hK ⊢
                simp only [Act.put, List.setIfInBounds_toArray, List.set_cons_succ, List.set_cons_zero] at hK
                generalize vs 2 = v2 at hK d2 ⊢
                subst v2
                generalize vs 4 = v4 at hK d4 ⊢
                subst v4
                generalize vs 5 = v5 at hK d5 ⊢
                subst v5
                go_wp2
                exact hK _ _ rfl (Mod.refl _ _)
              refine opsOkA_cons ?_ ?_
              · intro K vs W hR hD hK
                have d2 : vs 2 = .bool false := hD 2 (by decide)
                have d6 : vs 6 = .bool false := hD 6 (by decide)
                clear hD
                try dsimp only at hK ⊢
                simp only [Act.put, List.setIfInBounds_toArray, List.set_cons_succ, List.set_cons_zero] at hK
                generalize vs 2 = v2 at hK d2 ⊢
                subst v2
                generalize vs 6 = v6 at hK d6 ⊢
                subst v6
                go_wp2
                exact hK _ _ rfl (Mod.refl _ _)
              refine opsOkA_cons ?_ ?_
              · intro K vs W hR hD hK
                have d7 : vs 7 = .bool false := hD 7 (by decide)
                clear hD
                try dsimp only at hK ⊢
                simp only [Act.put, List.setIfInBounds_toArray, List.set_cons_succ, List.set_cons_zero] at hK
                generalize vs 7 = v7 at hK d7 ⊢
                subst v7
                go_wp2
                exact hK _ _ rfl (Mod.refl _ _)
              refine opsOkA_cons ?_ ?_
              · intro K vs W hR hD hK
                have d8 : vs 8 = .bool false := hD 8 (by decide)
                clear hD
                try dsimp only at hK ⊢
                simp only [Act.put, List.setIfInBounds_toArray, List.set_cons_succ, List.set_cons_zero] at hK
                generalize vs 8 = v8 at hK d8 ⊢
                subst v8
                go_wp2
                exact hK _ _ rfl (Mod.refl _ _)
              refine opsOkA_cons ?_ ?_
              · intro K vs W hR hD hK
                have d8 : vs 8 = .bool false := hD 8 (by decide)
                have d9 : vs 9 = .int .i64 (ko : Int) := hD 9 (by decide)
                clear hD
                try dsimp only at hK ⊢
                simp only [Act.put, List.setIfInBounds_toArray, List.set_cons_succ, List.set_cons_zero] at hK
                generalize vs 8 = v8 at hK d8 ⊢
                subst v8
                generalize vs 9 = v9 at hK d9 ⊢
                subst v9
                have z6 : decide ((0 : Int) < (ko : Int)) = true := by simp; omega
                have z6b : decide (0 < ko) = true := by simp; omega
                go_wp2
                exact hK _ _ rfl (Mod.refl _ _)
              refine opsOkA_cons ?_ ?_
              · intro K vs W hR hD hK
                have d8 : vs 8 = .bool false := hD 8 (by decide)
                have d10 : vs 10 = .bool true := hD 10 (by decide)
                clear hD
                try dsimp only at hK ⊢
                simp only [Act.put, List.setIfInBounds_toArray, List.set_cons_succ, List.set_cons_zero] at hK
                generalize vs 8 = v8 at hK d8 ⊢
                subst v8
                generalize vs 10 = v10 at hK d10 ⊢
                subst v10
                go_wp2
                exact hK _ _ rfl (Mod.refl _ _)
              refine opsOkA_cons ?_ ?_
              · intro K vs W hR hD hK
                have d11 : vs 11 = .bool true := hD 11 (by decide)
                clear hD
                try dsimp only at hK ⊢
                simp only [Act.put, List.setIfInBounds_toArray, List.set_cons_succ, List.set_cons_zero] at hK
                generalize vs 11 = v11 at hK d11 ⊢
                subst v11
                go_wp2
                exact hK _ _ rfl (Mod.refl _ _)
              refine opsOkA_cons ?_ ?_
              · intro K vs W hR hD hK
                have d11 : vs 11 = .bool true := hD 11 (by decide)
                clear hD
                try dsimp only at hK ⊢
                simp only [Act.put, List.setIfInBounds_toArray, List.set_cons_succ, List.set_cons_zero] at hK
                generalize vs 11 = v11 at hK d11 ⊢
                subst v11
                go_wp2
                exact hK _ _ rfl (Mod.refl _ _)
              refine opsOkA_cons ?_ ?_
              · intro K vs W hR hD hK
                have d11 : vs 11 = .bool true := hD 11 (by decide)
                have d13 : vs 13 = .int .i64 (ko : Int) := hD 13 (by decide)
                clear hD
                try dsimp only at hK ⊢
                simp only [Act.put, List.setIfInBounds_toArray, List.set_cons_succ, List.set_cons_zero] at hK
                generalize vs 11 = v11 at hK d11 ⊢
                subst v11
                generalize vs 13 = v13 at hK d13 ⊢
                subst v13
                have z7 : (ko : Int) - 1 = (kp : Int) := by have := HKP.out; omega
                go_wp2
                exact hK _ _ rfl (Mod.refl _ _)
              refine opsOkA_cons ?_ ?_
              · intro K vs W hR hD hK
                have d11 : vs 11 = .bool true := hD 11 (by decide)
                have d12 : vs 12 = .slice ao lo co := hD 12 (by decide)
                have d14 : vs 14 = .int .i64 (kp : Int) := hD 14 (by decide)
                clear hD
                try dsimp only at hK ⊢
                simp only [Act.put, List.setIfInBounds_toArray, List.set_cons_succ, List.set_cons_zero] at hK
                generalize vs 11 = v11 at hK d11 ⊢
                subst v11
                generalize vs 12 = v12 at hK d12 ⊢
                subst v12
                generalize vs 14 = v14 at hK d14 ⊢
                subst v14
                have hix := HIf.out
                go_wp2_with fail
                exact hK _ _ rfl (Mod.refl _ _)
              refine opsOkA_cons ?_ ?_
              · intro K vs W hR hD hK
                have d11 : vs 11 = .bool true := hD 11 (by decide)
                have d15 : vs 15 = .pointer (some ⟨fb, fo, none⟩) := hD 15 (by decide)
                clear hD
                try dsimp only at hK ⊢
                simp only [Act.put, List.setIfInBounds_toArray, List.set_cons_succ, List.set_cons_zero] at hK
                generalize vs 11 = v11 at hK d11 ⊢
                subst v11
                generalize vs 15 = v15 at hK d15 ⊢
                subst v15
                have c0 := (HSd.out.at (hR)).1
                go_wp2
                exact hK _ _ rfl (Mod.refl _ _)
              refine opsOkA_cons ?_ ?_
              · intro K vs W hR hD hK
                have d11 : vs 11 = .bool true := hD 11 (by decide)
                clear hD
                try dsimp only at hK ⊢
                simp only [Act.put, List.setIfInBounds_toArray, List.set_cons_succ, List.set_cons_zero] at hK
                generalize vs 11 = v11 at hK d11 ⊢
                subst v11
                go_wp2
                exact hK _ _ rfl (Mod.refl _ _)
              refine opsOkA_cons ?_ ?_
              · intro K vs W hR hD hK
                have d11 : vs 11 = .bool true := hD 11 (by decide)
                clear hD
                try dsimp only at hK ⊢
                simp only [Act.put, List.setIfInBounds_toArray, List.set_cons_succ, List.set_cons_zero] at hK
                generalize vs 11 = v11 at hK d11 ⊢
                subst v11
                go_wp2
                exact hK _ _ rfl (Mod.refl _ _)
              refine opsOkA_cons ?_ ?_
              · intro K vs W hR hD hK
                have d11 : vs 11 = .bool true := hD 11 (by decide)
                have d17 : vs 17 = .slice ao lo co := hD 17 (by decide)
                have d18 : vs 18 = .int .i64 (ko : Int) := hD 18 (by decide)
                clear hD
                try dsimp only at hK ⊢
                simp only [Act.put, List.setIfInBounds_toArray, List.set_cons_succ, List.set_cons_zero] at hK
                generalize vs 11 = v11 at hK d11 ⊢
                subst v11
                generalize vs 17 = v17 at hK d17 ⊢
                subst v17
                generalize vs 18 = v18 at hK d18 ⊢
                subst v18
                have hix := HIe.out
                go_wp2_with fail
                exact hK _ _ rfl (Mod.refl _ _)
              refine opsOkA_cons ?_ ?_
              · intro K vs W hR hD hK
                have d11 : vs 11 = .bool true := hD 11 (by decide)
                have d19 : vs 19 = .pointer (some ⟨eb, eo, none⟩) := hD 19 (by decide)
                clear hD
                try dsimp only at hK ⊢
                simp only [Act.put, List.setIfInBounds_toArray, List.set_cons_succ, List.set_cons_zero] at hK
                generalize vs 11 = v11 at hK d11 ⊢
                subst v11
                generalize vs 19 = v19 at hK d19 ⊢
                subst v19
                have c0 := (HSd.out.at (hR)).2.2.1
                go_wp2
                exact hK _ _ rfl (Mod.refl _ _)
              refine opsOkA_cons ?_ ?_
              · intro K vs W hR hD hK
                have d11 : vs 11 = .bool true := hD 11 (by decide)
                have d16 : vs 16 = .int .i64 (pe : Int) := hD 16 (by decide)
                have d20 : vs 20 = .int .i64 (ed : Int) := hD 20 (by decide)
                clear hD
                try dsimp only at hK ⊢
                simp only [Act.put, List.setIfInBounds_toArray, List.set_cons_succ, List.set_cons_zero] at hK
                generalize vs 11 = v11 at hK d11 ⊢
                subst v11
                generalize vs 16 = v16 at hK d16 ⊢
                subst v16
                generalize vs 20 = v20 at hK d20 ⊢
                subst v20
                have z8 : decide ((ed : Int) ≤ (pe : Int)) = false := by simp; omega
                have z9 : decide (ed ≤ pe) = false := by simp; omega
                go_wp2
                exact hK _ _ rfl (Mod.refl _ _)
              refine opsOkA_cons ?_ ?_
              · intro K vs W hR hD hK
                have d8 : vs 8 = .bool false := hD 8 (by decide)
                have d11 : vs 11 = .bool true := hD 11 (by decide)
                have d21 : vs 21 = .bool false := hD 21 (by decide)
                clear hD
                try dsimp only at hK ⊢
                simp only [Act.put, List.setIfInBounds_toArray, List.set_cons_succ, List.set_cons_zero] at hK
                generalize vs 8 = v8 at hK d8 ⊢
                subst v8
                generalize vs 11 = v11 at hK d11 ⊢
                subst v11
                generalize vs 21 = v21 at hK d21 ⊢
                subst v21
                go_wp2
                exact hK _ _ rfl (Mod.refl _ _)
              refine opsOkA_cons ?_ ?_
              · intro K vs W hR hD hK
                have d8 : vs 8 = .bool false := hD 8 (by decide)
                have d22 : vs 22 = .bool false := hD 22 (by decide)
                clear hD
                try dsimp only at hK ⊢
                simp only [Act.put, List.setIfInBounds_toArray, List.set_cons_succ, List.set_cons_zero] at hK
                generalize vs 8 = v8 at hK d8 ⊢
                subst v8
                generalize vs 22 = v22 at hK d22 ⊢
                subst v22
                go_wp2
                exact hK _ _ rfl (Mod.refl _ _)
              exact opsOkA_nil
            · intro vs wq9 hR hF
              have d23 : vs 23 = .bool false := hF 23 (by decide)
              clear hF
              try dsimp only
              generalize vs 23 = v23 at d23 ⊢
              subst d23
              replace HS := Lib.hid (HSd.out.step hR)
              clear HSd hR
              have hbbg := (HS.out.now).2.2.2.2.2.2.2.2.1
              have qbg_0 := hbbg.cell 0 rfl
              have qbg_1 := hbbg.cell 1 rfl
              have qbg_2 := hbbg.cell 2 rfl
              have lbg := hbbg.lt
              clear hbbg
              have hbnb := (HS.out.now).2.1
              have qnb_0 := hbnb.cell 0 rfl
              have qnb_1 := hbnb.cell 1 rfl
              have qnb_2 := hbnb.cell 2 rfl
              have lnb := hbnb.lt
              clear hbnb
              go_wp2_with fail
              go_roundw
              case rel => exact ⟨ko + 1, hlk, by go_num, (HS.out.now).2.2.2.1⟩
              case measure => simp [intOf]; omega
          case neg =>
            obtain rfl : ko = 0 := by omega
            have z6 : decide ((0 : Int) < (0 : Int)) = false := by simp
            clear qbg_0 qbg_1 qbg_2 lbg
            go_upto_region 17 with fail
            have HSd := Lib.hid HS.out.drew
            refine wp_region_inv3 (act := ?actgw_r17_1) (Mod (fun _ => False)) (fun i => (gw_r17_1_F 0 p bg nb eb eo 0 0 j ed 0 lo co 0 ao 0 uy uz).getD i (fun _ _ => True)) (fun i => gw_r17_1_D.getD i []) (by kernel_rfl) (by kernel_rfl) (by kernel_rfl) (by kernel_rfl) (fun _ => Mod.refl _ _)
              (fun _ _ _ h k => h.trans k (fun _ _ e => e) (fun _ _ e => e)) ?hactgw_r17_1 (stable_list ?_) ?_ ?_
            case hactgw_r17_1 => intro vs; simp only [putAll, Nat.zero_add, Nat.reduceAdd, Act.put, List.setIfInBounds_toArray, List.set_cons_succ, List.set_cons_zero]; exact rfl
            · unfold gw_r17_1_F
              exact stable_cons (stable_val _) <| stable_cons (stable_val _) <| stable_cons (stable_val _) <| stable_cons (stable_val _) <| stable_cons (stable_val _) <| stable_cons (stable_val _) <| stable_cons (stable_val _) <| stable_cons (stable_val _) <| stable_cons (stable_val _) <| stable_cons (stable_val _) <| stable_cons (stable_val _) <| stable_cons (stable_val _) <| stable_cons (stable_val _) <| stable_cons (stable_val _) <| stable_cons (stable_val _) <| stable_cons (stable_val _) <| stable_cons (stable_val _) <| stable_cons (stable_val _) <| stable_cons (stable_val _) <| stable_cons (stable_val _) <| stable_cons (stable_val _) <| stable_cons (stable_val _) <| stable_cons (stable_val _) <| stable_cons (stable_val _) <| stable_nil
            · refine opsOkA_cons ?_ ?_
              · intro K vs W hR hD hK
                clear hD
                try dsimp only at hK ⊢
                simp only [Act.put, List.setIfInBounds_toArray, List.set_cons_succ, List.set_cons_zero] at hK
                go_wp2
                exact hK _ _ rfl (Mod.refl _ _)
              refine opsOkA_cons ?_ ?_
              · intro K vs W hR hD hK
                have d0 : vs 0 = .bool true := hD 0 (by decide)
                clear hD
                try dsimp only at hK ⊢
                simp only [Act.put, List.setIfInBounds_toArray, List.set_cons_succ, List.set_cons_zero] at hK
                generalize vs 0 = v0 at hK d0 ⊢
                subst v0
                go_wp2
                exact hK _ _ rfl (Mod.refl _ _)
              refine opsOkA_cons ?_ ?_
              · intro K vs W hR hD hK
                have d1 : vs 1 = .bool false := hD 1 (by decide)
                clear hD
                try dsimp only at hK ⊢
                simp only [Act.put, List.setIfInBounds_toArray, List.set_cons_succ, List.set_cons_zero] at hK
                generalize vs 1 = v1 at hK d1 ⊢
                subst v1
                go_wp2
                exact hK _ _ rfl (Mod.refl _ _)
              refine opsOkA_cons ?_ ?_
              · intro K vs W hR hD hK
                have d2 : vs 2 = .bool false := hD 2 (by decide)
                clear hD
                try dsimp only at hK ⊢
                simp only [Act.put, List.setIfInBounds_toArray, List.set_cons_succ, List.set_cons_zero] at hK
                generalize vs 2 = v2 at hK d2 ⊢
                subst v2
                go_wp2
                exact hK _ _ rfl (Mod.refl _ _)
              refine opsOkA_cons ?_ ?_
              · intro K vs W hR hD hK
                have d2 : vs 2 = .bool false := hD 2 (by decide)
                have d3 : vs 3 = .pointer (some ⟨nb, 0, none⟩) := hD 3 (by decide)
                clear hD
                try dsimp only at hK ⊢
                simp only [Act.put, List.setIfInBounds_toArray, List.set_cons_succ, List.set_cons_zero] at hK
                generalize vs 2 = v2 at hK d2 ⊢
                subst v2
                generalize vs 3 = v3 at hK d3 ⊢
                subst v3
                have q0 := ((HSd.out.at (hR)).1).cell 0 rfl
                go_wp2
                exact hK _ _ rfl (Mod.refl _ _)
              refine opsOkA_cons ?_ ?_
              · intro K vs W hR hD hK
                have d2 : vs 2 = .bool false := hD 2 (by decide)
                clear hD
                try dsimp only at hK ⊢
                simp only [Act.put, List.setIfInBounds_toArray, List.set_cons_succ, List.set_cons_zero] at hK
                generalize vs 2 = v2 at hK d2 ⊢
                subst v2
                go_wp2
                exact hK _ _ rfl (Mod.refl _ _)
              refine opsOkA_cons ?_ ?_
              · intro K vs W hR hD hK
                have d2 : vs 2 = .bool false := hD 2 (by decide)
                have d4 : vs 4 = .int .i64 (j : Int) := hD 4 (by decide)
                have d5 : vs 5 = .int .i64 (j : Int) := hD 5 (by decide)
                clear hD
                try dsimp only at hK ⊢
                simp only [Act.put, List.setIfInBounds_toArray, List.set_cons_succ, List.set_cons_zero] at hK
                generalize vs 2 = v2 at hK d2 ⊢
                subst v2
                generalize vs 4 = v4 at hK d4 ⊢
                subst v4
                generalize vs 5 = v5 at hK d5 ⊢
                subst v5
                go_wp2
                exact hK _ _ rfl (Mod.refl _ _)
              refine opsOkA_cons ?_ ?_
              · intro K vs W hR hD hK
                have d2 : vs 2 = .bool false := hD 2 (by decide)
                have d6 : vs 6 = .bool false := hD 6 (by decide)
                clear hD
                try dsimp only at hK ⊢
                simp only [Act.put, List.setIfInBounds_toArray, List.set_cons_succ, List.set_cons_zero] at hK
                generalize vs 2 = v2 at hK d2 ⊢
                subst v2
                generalize vs 6 = v6 at hK d6 ⊢
                subst v6
                go_wp2
                exact hK _ _ rfl (Mod.refl _ _)
              refine opsOkA_cons ?_ ?_
              · intro K vs W hR hD hK
                have d7 : vs 7 = .bool false := hD 7 (by decide)
                clear hD
                try dsimp only at hK ⊢
                simp only [Act.put, List.setIfInBounds_toArray, List.set_cons_succ, List.set_cons_zero] at hK
                generalize vs 7 = v7 at hK d7 ⊢
                subst v7
                go_wp2
                exact hK _ _ rfl (Mod.refl _ _)
              refine opsOkA_cons ?_ ?_
              · intro K vs W hR hD hK
                have d8 : vs 8 = .bool false := hD 8 (by decide)
                clear hD
                try dsimp only at hK ⊢
                simp only [Act.put, List.setIfInBounds_toArray, List.set_cons_succ, List.set_cons_zero] at hK
                generalize vs 8 = v8 at hK d8 ⊢
                subst v8
                go_wp2
                exact hK _ _ rfl (Mod.refl _ _)
              refine opsOkA_cons ?_ ?_
              · intro K vs W hR hD hK
                have d8 : vs 8 = .bool false := hD 8 (by decide)
                have d9 : vs 9 = .int .i64 0 := hD 9 (by decide)
                clear hD
                try dsimp only at hK ⊢
                simp only [Act.put, List.setIfInBounds_toArray, List.set_cons_succ, List.set_cons_zero] at hK
                generalize vs 8 = v8 at hK d8 ⊢
                subst v8
                generalize vs 9 = v9 at hK d9 ⊢
                subst v9
                go_wp2
                exact hK _ _ rfl (Mod.refl _ _)
              refine opsOkA_cons ?_ ?_
              · intro K vs W hR hD hK
                have d8 : vs 8 = .bool false := hD 8 (by decide)
                have d10 : vs 10 = .bool false := hD 10 (by decide)
                clear hD
                try dsimp only at hK ⊢
                simp only [Act.put, List.setIfInBounds_toArray, List.set_cons_succ, List.set_cons_zero] at hK
                generalize vs 8 = v8 at hK d8 ⊢
                subst v8
                generalize vs 10 = v10 at hK d10 ⊢
                subst v10
                go_wp2
                exact hK _ _ rfl (Mod.refl _ _)
              refine opsOkA_cons ?_ ?_
              · intro K vs W hR hD hK
                have d11 : vs 11 = .bool false := hD 11 (by decide)
                clear hD
                try dsimp only at hK ⊢
                simp only [Act.put, List.setIfInBounds_toArray, List.set_cons_succ, List.set_cons_zero] at hK
                generalize vs 11 = v11 at hK d11 ⊢
                subst v11
                go_wp2
                exact hK _ _ rfl (Mod.refl _ _)
              refine opsOkA_cons ?_ ?_
              · intro K vs W hR hD hK
                have d11 : vs 11 = .bool false := hD 11 (by decide)
                clear hD
                try dsimp only at hK ⊢
                simp only [Act.put, List.setIfInBounds_toArray, List.set_cons_succ, List.set_cons_zero] at hK
                generalize vs 11 = v11 at hK d11 ⊢
                subst v11
                go_wp2
                exact hK _ _ rfl (Mod.refl _ _)
              refine opsOkA_cons ?_ ?_
              · intro K vs W hR hD hK
                have d11 : vs 11 = .bool false := hD 11 (by decide)
                clear hD
                try dsimp only at hK ⊢
                simp only [Act.put, List.setIfInBounds_toArray, List.set_cons_succ, List.set_cons_zero] at hK
                generalize vs 11 = v11 at hK d11 ⊢
                subst v11
                go_wp2
                exact hK _ _ rfl (Mod.refl _ _)
              refine opsOkA_cons ?_ ?_
              · intro K vs W hR hD hK
                have d11 : vs 11 = .bool false := hD 11 (by decide)
                clear hD
                try dsimp only at hK ⊢
                simp only [Act.put, List.setIfInBounds_toArray, List.set_cons_succ, List.set_cons_zero] at hK
                generalize vs 11 = v11 at hK d11 ⊢
                subst v11
                go_wp2_with fail
                exact hK _ _ rfl (Mod.refl _ _)
              refine opsOkA_cons ?_ ?_
              · intro K vs W hR hD hK
                have d11 : vs 11 = .bool false := hD 11 (by decide)
                clear hD
                try dsimp only at hK ⊢
                simp only [Act.put, List.setIfInBounds_toArray, List.set_cons_succ, List.set_cons_zero] at hK
                generalize vs 11 = v11 at hK d11 ⊢
                subst v11
                go_wp2
                exact hK _ _ rfl (Mod.refl _ _)
              refine opsOkA_cons ?_ ?_
              · intro K vs W hR hD hK
                have d11 : vs 11 = .bool false := hD 11 (by decide)
                clear hD
                try dsimp only at hK ⊢
                simp only [Act.put, List.setIfInBounds_toArray, List.set_cons_succ, List.set_cons_zero] at hK
                generalize vs 11 = v11 at hK d11 ⊢
                subst v11
                go_wp2
                exact hK _ _ rfl (Mod.refl _ _)
              refine opsOkA_cons ?_ ?_
              · intro K vs W hR hD hK
                have d11 : vs 11 = .bool false := hD 11 (by decide)
                clear hD
                try dsimp only at hK ⊢
                simp only [Act.put, List.setIfInBounds_toArray, List.set_cons_succ, List.set_cons_zero] at hK
                generalize vs 11 = v11 at hK d11 ⊢
                subst v11
                go_wp2
                exact hK _ _ rfl (Mod.refl _ _)
              refine opsOkA_cons ?_ ?_
              · intro K vs W hR hD hK
                have d11 : vs 11 = .bool false := hD 11 (by decide)
                clear hD
                try dsimp only at hK ⊢
                simp only [Act.put, List.setIfInBounds_toArray, List.set_cons_succ, List.set_cons_zero] at hK
                generalize vs 11 = v11 at hK d11 ⊢
                subst v11
                go_wp2_with fail
                exact hK _ _ rfl (Mod.refl _ _)
              refine opsOkA_cons ?_ ?_
              · intro K vs W hR hD hK
                have d11 : vs 11 = .bool false := hD 11 (by decide)
                clear hD
                try dsimp only at hK ⊢
                simp only [Act.put, List.setIfInBounds_toArray, List.set_cons_succ, List.set_cons_zero] at hK
                generalize vs 11 = v11 at hK d11 ⊢
                subst v11
                go_wp2
                exact hK _ _ rfl (Mod.refl _ _)
              refine opsOkA_cons ?_ ?_
              · intro K vs W hR hD hK
                have d11 : vs 11 = .bool false := hD 11 (by decide)
                clear hD
                try dsimp only at hK ⊢
                simp only [Act.put, List.setIfInBounds_toArray, List.set_cons_succ, List.set_cons_zero] at hK
                generalize vs 11 = v11 at hK d11 ⊢
                subst v11
                go_wp2
                exact hK _ _ rfl (Mod.refl _ _)
              refine opsOkA_cons ?_ ?_
              · intro K vs W hR hD hK
                have d8 : vs 8 = .bool false := hD 8 (by decide)
                have d11 : vs 11 = .bool false := hD 11 (by decide)
                have d21 : vs 21 = undef := hD 21 (by decide)
                clear hD
                try dsimp only at hK ⊢
                simp only [Act.put, List.setIfInBounds_toArray, List.set_cons_succ, List.set_cons_zero] at hK
                generalize vs 8 = v8 at hK d8 ⊢
                subst v8
                generalize vs 11 = v11 at hK d11 ⊢
                subst v11
                generalize vs 21 = v21 at hK d21 ⊢
                subst v21
                go_wp2
                exact hK _ _ rfl (Mod.refl _ _)
              refine opsOkA_cons ?_ ?_
              · intro K vs W hR hD hK
                have d8 : vs 8 = .bool false := hD 8 (by decide)
                have d22 : vs 22 = .bool false := hD 22 (by decide)
                clear hD
                try dsimp only at hK ⊢
                simp only [Act.put, List.setIfInBounds_toArray, List.set_cons_succ, List.set_cons_zero] at hK
                generalize vs 8 = v8 at hK d8 ⊢
                subst v8
                generalize vs 22 = v22 at hK d22 ⊢
                subst v22
                go_wp2
                exact hK _ _ rfl (Mod.refl _ _)
              exact opsOkA_nil
            · intro vs wq10 hR hF
              have d23 : vs 23 = .bool false := hF 23 (by decide)
              clear hF
              try dsimp only
              generalize vs 23 = v23 at d23 ⊢
              subst d23
              replace HS := Lib.hid (HSd.out.step hR)
              clear HSd hR
              have hbbg := (HS.out.now).2.2.2.2.2.2.2.1
              have qbg_0 := hbbg.cell 0 rfl
              have qbg_1 := hbbg.cell 1 rfl
              have qbg_2 := hbbg.cell 2 rfl
              have lbg := hbbg.lt
              clear hbbg
              have hbnb := (HS.out.now).1
              have qnb_0 := hbnb.cell 0 rfl
              have qnb_1 := hbnb.cell 1 rfl
              have qnb_2 := hbnb.cell 2 rfl
              have lnb := hbnb.lt
              clear hbnb
              go_wp2_with fail
              go_roundw
              case rel => exact ⟨1, hlk, by go_num, (HS.out.now).2.2.1⟩
              case measure => simp [intOf]; omega
        case neg =>
          have z5 : decide ((ko : Int) < (lo : Int)) = false := by simp; omega
          go_wp2_with fail
          clear qbg_0 qbg_1 qbg_2 lbg
          replace HS := Lib.hid ((Ev.mod wio).and HS.out)
          go_loopw [16] (fun i wr => ∃ k : Nat, k ≤ li ∧ i = .int .i64 k ∧ Mod (fun _ => False) wio wr) (fun i _ => li - (intOf i).toNat)
          case atStart => exact ⟨0, by omega, rfl, Mod.refl _ _⟩
          case round =>
            obtain ⟨ki, hk, rfl, hmr⟩ := hrel
            obtain ⟨wii, hwo⟩ : ∃ x : World, x = wr := ⟨_, rfl⟩
            subst hwo
            replace HS := Lib.hid (HS.out.step hmr)
            clear hmr
            have hbbg := (HS.out.now).2.2.2.2.2.2.1
            have qbg_0 := hbbg.cell 0 rfl
            have qbg_1 := hbbg.cell 1 rfl
            have qbg_2 := hbbg.cell 2 rfl
            have lbg := hbbg.lt
            clear hbbg
            by_cases hlk : ki < li
            case pos =>
              have z5 : decide ((ki : Int) < (li : Int)) = true := by simp; omega
              have hkl : ki < (gIn G (j : Int)).length := by rw [HLi.out]; exact hlk
              obtain ⟨ed, hed, hel, hfl⟩ := gIn_at G j ki hkl
              obtain ⟨ux, hux⟩ : ∃ x, (G.E[ed]).1 = x := ⟨_, rfl⟩
              obtain ⟨uy, huy⟩ : ∃ x, (G.E[ed]).2.1 = x := ⟨_, rfl⟩
              obtain ⟨uz, huz⟩ : ∃ x, (G.E[ed]).2.2 = x := ⟨_, rfl⟩
              obtain rfl : uy = (j : Int) := by rw [← huy]; exact hfl
              have HUX := Lib.hid hux
              have HUY := Lib.hid huy
              have HUZ := Lib.hid huz
              have HED := Lib.hid hed
              clear hux huy huz hfl hed
              obtain ⟨eb, eo, hpl, e0⟩ := rd1 (HS.out.now).2.2.1 ki hkl
              have hix := fun wx => run_indexS (P := Try.prog) wx 50 3 iI 1 Try.underlying50 hiI hsI ai li ci ki hlk ((HS.out.now).2.2.1.some_ (by have := hlk; omega))
              rw [hpl] at hix
              have HIe := Lib.hid hix
              clear hix hpl
              rw [HED.out] at e0
              replace HS := Lib.hid ((Ev.cell e0).and HS.out)
              clear e0
              clear qbg_0 qbg_1 qbg_2 lbg
              have hbbg := (HS.out.now).2.2.2.2.2.2.2.1
              have qbg_0 := hbbg.cell 0 rfl
              have qbg_1 := hbbg.cell 1 rfl
              have qbg_2 := hbbg.cell 2 rfl
              have lbg := hbbg.lt
              clear hbbg
              have qe := (HS.out.now).1
              have hix := HIe.out
              go_wp2_with fail
              refine (edge_at p B C _ G ((HS.out.now).2.2.2.2.2.2.1) ed hel ux (j : Int) uz HUX.out HUY.out HUZ.out).mono ?_
              rintro e wq11 ⟨rfl, hmm⟩
              replace HS := Lib.hid (HS.out.step hmm)
              clear hmm
              clear qbg_0 qbg_1 qbg_2 lbg
              have hbbg := (HS.out.now).2.2.2.2.2.2.2.1
              have qbg_0 := hbbg.cell 0 rfl
              have qbg_1 := hbbg.cell 1 rfl
              have qbg_2 := hbbg.cell 2 rfl
              have lbg := hbbg.lt
              clear hbbg
              go_wp2_with fail
              obtain ⟨nb, hnb⟩ : ∃ b, wq11.heap.size = b := ⟨_, rfl⟩
              obtain ⟨wq12, hwq12⟩ : ∃ W, World.alloc wq11 (.cells #[.int .i64 ux, .int .i64 (j : Int), .int .i64 uz] 41) = W := ⟨_, rfl⟩
              have hBnb : Blk wq12 nb 41 [.int .i64 ux, .int .i64 (j : Int), .int .i64 uz] := by rw [← hwq12, ← hnb]; exact Blk.new _ 41 [.int .i64 ux, .int .i64 (j : Int), .int .i64 uz]
              have hznb : wq12.heap.size = nb + 1 := by rw [← hwq12, ← hnb]; exact heap_size_alloc _ _
              replace HS := Lib.hid (HS.out.step (w' := wq12) (by rw [← hwq12]; exact Mod.alloc _ _ _))
              replace HS := Lib.hid ((Ev.blk hBnb).and HS.out)
              try rw [hwq12]
              try rw [hnb]
              clear hznb hBnb hnb hwq12
              by_cases hk0 : 0 < ki
              case pos =>
                obtain ⟨kp, hkp⟩ : ∃ n, ki = n + 1 := ⟨ki - 1, by omega⟩
                have hkpl : kp < (gIn G (j : Int)).length := by omega
                obtain ⟨pe, hpe, _⟩ := gIn_at G j kp hkpl
                have hrise : (pe : Int) < (ed : Int) := by have h := gIn_rise G j kp (by omega); rw [hpe] at h; have := HED.out; simp only [hkp] at this; rw [this] at h; exact h
                have hkpo : kp < li := by omega
                have HPE := Lib.hid hpe
                have HKP := Lib.hid hkp
                clear hpe hkp
                obtain ⟨fb, fo, hpl, e0⟩ := rd1 (HS.out.now).2.2.2.2.1 kp hkpl
                have hix := fun wx => run_indexS (P := Try.prog) wx 50 3 iI 1 Try.underlying50 hiI hsI ai li ci kp hkpo ((HS.out.now).2.2.2.2.1.some_ (by have := hkpo; omega))
                rw [hpl] at hix
                have HIf := Lib.hid hix
                clear hix hpl
                rw [HPE.out] at e0
                replace HS := Lib.hid ((Ev.cell e0).and HS.out)
                clear e0
                clear qbg_0 qbg_1 qbg_2 lbg
                go_upto_region 23 with fail
                have HSd := Lib.hid HS.out.drew
                refine wp_region_inv3 (act := ?actgw_r23_2) (Mod (fun _ => False)) (fun i => (gw_r23_2_F pe p bg nb eb eo fb fo j ed kp li ci ki ai ux 0 uz).getD i (fun _ _ => True)) (fun i => gw_r23_2_D.getD i []) (by kernel_rfl) (by kernel_rfl) (by kernel_rfl) (by kernel_rfl) (fun _ => Mod.refl _ _)
                  (fun _ _ _ h k => h.trans k (fun _ _ e => e) (fun _ _ e => e)) ?hactgw_r23_2 (stable_list ?_) ?_ ?_
                case hactgw_r23_2 => intro vs; simp only [putAll, Nat.zero_add, Nat.reduceAdd, Act.put, List.setIfInBounds_toArray, List.set_cons_succ, List.set_cons_zero]; exact rfl
                · unfold gw_r23_2_F
                  exact stable_cons (stable_val _) <| stable_cons (stable_val _) <| stable_cons (stable_val _) <| stable_cons (stable_val _) <| stable_cons (stable_val _) <| stable_cons (stable_val _) <| stable_cons (stable_val _) <| stable_cons (stable_val _) <| stable_cons (stable_val _) <| stable_cons (stable_val _) <| stable_cons (stable_val _) <| stable_cons (stable_val _) <| stable_cons (stable_val _) <| stable_cons (stable_val _) <| stable_cons (stable_val _) <| stable_cons (stable_val _) <| stable_cons (stable_val _) <| stable_cons (stable_val _) <| stable_cons (stable_val _) <| stable_cons (stable_val _) <| stable_cons (stable_val _) <| stable_cons (stable_val _) <| stable_cons (stable_val _) <| stable_cons (stable_val _) <| stable_nil
                · refine opsOkA_cons ?_ ?_
                  · intro K vs W hR hD hK
                    clear hD
                    try dsimp only at hK ⊢
                    simp only [Act.put, List.setIfInBounds_toArray, List.set_cons_succ, List.set_cons_zero] at hK
                    go_wp2
                    exact hK _ _ rfl (Mod.refl _ _)
                  refine opsOkA_cons ?_ ?_
                  · intro K vs W hR hD hK
                    have d0 : vs 0 = .bool true := hD 0 (by decide)
                    clear hD
                    try dsimp only at hK ⊢
                    simp only [Act.put, List.setIfInBounds_toArray, List.set_cons_succ, List.set_cons_zero] at hK
                    generalize vs 0 = v0 at hK d0 ⊢
                    subst v0
                    go_wp2
                    exact hK _ _ rfl (Mod.refl _ _)
                  refine opsOkA_cons ?_ ?_
                  · intro K vs W hR hD hK
                    have d1 : vs 1 = .bool false := hD 1 (by decide)
                    clear hD
                    try dsimp only at hK ⊢
                    simp only [Act.put, List.setIfInBounds_toArray, List.set_cons_succ, List.set_cons_zero] at hK
                    generalize vs 1 = v1 at hK d1 ⊢
                    subst v1
                    go_wp2
                    exact hK _ _ rfl (Mod.refl _ _)
                  refine opsOkA_cons ?_ ?_
                  · intro K vs W hR hD hK
                    have d2 : vs 2 = .bool false := hD 2 (by decide)
                    clear hD
                    try dsimp only at hK ⊢
                    simp only [Act.put, List.setIfInBounds_toArray, List.set_cons_succ, List.set_cons_zero] at hK
                    generalize vs 2 = v2 at hK d2 ⊢
                    subst v2
                    go_wp2
                    exact hK _ _ rfl (Mod.refl _ _)
                  refine opsOkA_cons ?_ ?_
                  · intro K vs W hR hD hK
                    have d2 : vs 2 = .bool false := hD 2 (by decide)
                    have d3 : vs 3 = .pointer (some ⟨nb, 1, none⟩) := hD 3 (by decide)
                    clear hD
                    try dsimp only at hK ⊢
                    simp only [Act.put, List.setIfInBounds_toArray, List.set_cons_succ, List.set_cons_zero] at hK
                    generalize vs 2 = v2 at hK d2 ⊢
                    subst v2
                    generalize vs 3 = v3 at hK d3 ⊢
                    subst v3
                    have q0 := ((HSd.out.at (hR)).2.1).cell 1 rfl
                    go_wp2
                    exact hK _ _ rfl (Mod.refl _ _)
                  refine opsOkA_cons ?_ ?_
                  · intro K vs W hR hD hK
                    have d2 : vs 2 = .bool false := hD 2 (by decide)
                    clear hD
                    try dsimp only at hK ⊢
                    simp only [Act.put, List.setIfInBounds_toArray, List.set_cons_succ, List.set_cons_zero] at hK
                    generalize vs 2 = v2 at hK d2 ⊢
                    subst v2
                    go_wp2
                    exact hK _ _ rfl (Mod.refl _ _)
                  refine opsOkA_cons ?_ ?_
                  · intro K vs W hR hD hK
                    have d2 : vs 2 = .bool false := hD 2 (by decide)
                    have d4 : vs 4 = .int .i64 (j : Int) := hD 4 (by decide)
                    have d5 : vs 5 = .int .i64 (j : Int) := hD 5 (by decide)
                    clear hD
                    try dsimp only at hK ⊢
                    simp only [Act.put, List.setIfInBounds_toArray, List.set_cons_succ, List.set_cons_zero] at hK
                    generalize vs 2 = v2 at hK d2 ⊢
                    subst v2
                    generalize vs 4 = v4 at hK d4 ⊢
                    subst v4
                    generalize vs 5 = v5 at hK d5 ⊢
                    subst v5
                    go_wp2
                    exact hK _ _ rfl (Mod.refl _ _)
                  refine opsOkA_cons ?_ ?_
                  · intro K vs W hR hD hK
                    have d2 : vs 2 = .bool false := hD 2 (by decide)
                    have d6 : vs 6 = .bool false := hD 6 (by decide)
                    clear hD
                    try dsimp only at hK ⊢
                    simp only [Act.put, List.setIfInBounds_toArray, List.set_cons_succ, List.set_cons_zero] at hK
                    generalize vs 2 = v2 at hK d2 ⊢
                    subst v2
                    generalize vs 6 = v6 at hK d6 ⊢
                    subst v6
                    go_wp2
                    exact hK _ _ rfl (Mod.refl _ _)
                  refine opsOkA_cons ?_ ?_
                  · intro K vs W hR hD hK
                    have d7 : vs 7 = .bool false := hD 7 (by decide)
                    clear hD
                    try dsimp only at hK ⊢
                    simp only [Act.put, List.setIfInBounds_toArray, List.set_cons_succ, List.set_cons_zero] at hK
                    generalize vs 7 = v7 at hK d7 ⊢
                    subst v7
                    go_wp2
                    exact hK _ _ rfl (Mod.refl _ _)
                  refine opsOkA_cons ?_ ?_
                  · intro K vs W hR hD hK
                    have d8 : vs 8 = .bool false := hD 8 (by decide)
                    clear hD
                    try dsimp only at hK ⊢
                    simp only [Act.put, List.setIfInBounds_toArray, List.set_cons_succ, List.set_cons_zero] at hK
                    generalize vs 8 = v8 at hK d8 ⊢
                    subst v8
                    go_wp2
                    exact hK _ _ rfl (Mod.refl _ _)
                  refine opsOkA_cons ?_ ?_
                  · intro K vs W hR hD hK
                    have d8 : vs 8 = .bool false := hD 8 (by decide)
                    have d9 : vs 9 = .int .i64 (ki : Int) := hD 9 (by decide)
                    clear hD
                    try dsimp only at hK ⊢
                    simp only [Act.put, List.setIfInBounds_toArray, List.set_cons_succ, List.set_cons_zero] at hK
                    generalize vs 8 = v8 at hK d8 ⊢
                    subst v8
                    generalize vs 9 = v9 at hK d9 ⊢
                    subst v9
                    have z6 : decide ((0 : Int) < (ki : Int)) = true := by simp; omega
                    have z6b : decide (0 < ki) = true := by simp; omega
                    go_wp2
                    exact hK _ _ rfl (Mod.refl _ _)
                  refine opsOkA_cons ?_ ?_
                  · intro K vs W hR hD hK
                    have d8 : vs 8 = .bool false := hD 8 (by decide)
                    have d10 : vs 10 = .bool true := hD 10 (by decide)
                    clear hD
                    try dsimp only at hK ⊢
                    simp only [Act.put, List.setIfInBounds_toArray, List.set_cons_succ, List.set_cons_zero] at hK
                    generalize vs 8 = v8 at hK d8 ⊢
                    subst v8
                    generalize vs 10 = v10 at hK d10 ⊢
                    subst v10
                    go_wp2
                    exact hK _ _ rfl (Mod.refl _ _)
                  refine opsOkA_cons ?_ ?_
                  · intro K vs W hR hD hK
                    have d11 : vs 11 = .bool true := hD 11 (by decide)
                    clear hD
                    try dsimp only at hK ⊢
                    simp only [Act.put, List.setIfInBounds_toArray, List.set_cons_succ, List.set_cons_zero] at hK
                    generalize vs 11 = v11 at hK d11 ⊢
                    subst v11
                    go_wp2
                    exact hK _ _ rfl (Mod.refl _ _)
                  refine opsOkA_cons ?_ ?_
                  · intro K vs W hR hD hK
                    have d11 : vs 11 = .bool true := hD 11 (by decide)
                    clear hD
                    try dsimp only at hK ⊢
                    simp only [Act.put, List.setIfInBounds_toArray, List.set_cons_succ, List.set_cons_zero] at hK
                    generalize vs 11 = v11 at hK d11 ⊢
                    subst v11
                    go_wp2
                    exact hK _ _ rfl (Mod.refl _ _)
                  refine opsOkA_cons ?_ ?_
                  · intro K vs W hR hD hK
                    have d11 : vs 11 = .bool true := hD 11 (by decide)
                    have d13 : vs 13 = .int .i64 (ki : Int) := hD 13 (by decide)
                    clear hD
                    try dsimp only at hK ⊢
                    simp only [Act.put, List.setIfInBounds_toArray, List.set_cons_succ, List.set_cons_zero] at hK
                    generalize vs 11 = v11 at hK d11 ⊢
                    subst v11
                    generalize vs 13 = v13 at hK d13 ⊢
                    subst v13
                    have z7 : (ki : Int) - 1 = (kp : Int) := by have := HKP.out; omega
                    go_wp2
                    exact hK _ _ rfl (Mod.refl _ _)
                  refine opsOkA_cons ?_ ?_
                  · intro K vs W hR hD hK
                    have d11 : vs 11 = .bool true := hD 11 (by decide)
                    have d12 : vs 12 = .slice ai li ci := hD 12 (by decide)
                    have d14 : vs 14 = .int .i64 (kp : Int) := hD 14 (by decide)
                    clear hD
                    try dsimp only at hK ⊢
                    simp only [Act.put, List.setIfInBounds_toArray, List.set_cons_succ, List.set_cons_zero] at hK
                    generalize vs 11 = v11 at hK d11 ⊢
                    subst v11
                    generalize vs 12 = v12 at hK d12 ⊢
                    subst v12
                    generalize vs 14 = v14 at hK d14 ⊢
                    subst v14
                    have hix := HIf.out
                    go_wp2_with fail
                    exact hK _ _ rfl (Mod.refl _ _)
                  refine opsOkA_cons ?_ ?_
                  · intro K vs W hR hD hK
                    have d11 : vs 11 = .bool true := hD 11 (by decide)
                    have d15 : vs 15 = .pointer (some ⟨fb, fo, none⟩) := hD 15 (by decide)
                    clear hD
                    try dsimp only at hK ⊢
                    simp only [Act.put, List.setIfInBounds_toArray, List.set_cons_succ, List.set_cons_zero] at hK
                    generalize vs 11 = v11 at hK d11 ⊢
                    subst v11
                    generalize vs 15 = v15 at hK d15 ⊢
                    subst v15
                    have c0 := (HSd.out.at (hR)).1
                    go_wp2
                    exact hK _ _ rfl (Mod.refl _ _)
                  refine opsOkA_cons ?_ ?_
                  · intro K vs W hR hD hK
                    have d11 : vs 11 = .bool true := hD 11 (by decide)
                    clear hD
                    try dsimp only at hK ⊢
                    simp only [Act.put, List.setIfInBounds_toArray, List.set_cons_succ, List.set_cons_zero] at hK
                    generalize vs 11 = v11 at hK d11 ⊢
                    subst v11
                    go_wp2
                    exact hK _ _ rfl (Mod.refl _ _)
                  refine opsOkA_cons ?_ ?_
                  · intro K vs W hR hD hK
                    have d11 : vs 11 = .bool true := hD 11 (by decide)
                    clear hD
                    try dsimp only at hK ⊢
                    simp only [Act.put, List.setIfInBounds_toArray, List.set_cons_succ, List.set_cons_zero] at hK
                    generalize vs 11 = v11 at hK d11 ⊢
                    subst v11
                    go_wp2
                    exact hK _ _ rfl (Mod.refl _ _)
                  refine opsOkA_cons ?_ ?_
                  · intro K vs W hR hD hK
                    have d11 : vs 11 = .bool true := hD 11 (by decide)
                    have d17 : vs 17 = .slice ai li ci := hD 17 (by decide)
                    have d18 : vs 18 = .int .i64 (ki : Int) := hD 18 (by decide)
                    clear hD
                    try dsimp only at hK ⊢
                    simp only [Act.put, List.setIfInBounds_toArray, List.set_cons_succ, List.set_cons_zero] at hK
                    generalize vs 11 = v11 at hK d11 ⊢
                    subst v11
                    generalize vs 17 = v17 at hK d17 ⊢
                    subst v17
                    generalize vs 18 = v18 at hK d18 ⊢
                    subst v18
                    have hix := HIe.out
                    go_wp2_with fail
                    exact hK _ _ rfl (Mod.refl _ _)
                  refine opsOkA_cons ?_ ?_
                  · intro K vs W hR hD hK
                    have d11 : vs 11 = .bool true := hD 11 (by decide)
                    have d19 : vs 19 = .pointer (some ⟨eb, eo, none⟩) := hD 19 (by decide)
                    clear hD
                    try dsimp only at hK ⊢
                    simp only [Act.put, List.setIfInBounds_toArray, List.set_cons_succ, List.set_cons_zero] at hK
                    generalize vs 11 = v11 at hK d11 ⊢
                    subst v11
                    generalize vs 19 = v19 at hK d19 ⊢
                    subst v19
                    have c0 := (HSd.out.at (hR)).2.2.1
                    go_wp2
                    exact hK _ _ rfl (Mod.refl _ _)
                  refine opsOkA_cons ?_ ?_
                  · intro K vs W hR hD hK
                    have d11 : vs 11 = .bool true := hD 11 (by decide)
                    have d16 : vs 16 = .int .i64 (pe : Int) := hD 16 (by decide)
                    have d20 : vs 20 = .int .i64 (ed : Int) := hD 20 (by decide)
                    clear hD
                    try dsimp only at hK ⊢
                    simp only [Act.put, List.setIfInBounds_toArray, List.set_cons_succ, List.set_cons_zero] at hK
                    generalize vs 11 = v11 at hK d11 ⊢
                    subst v11
                    generalize vs 16 = v16 at hK d16 ⊢
                    subst v16
                    generalize vs 20 = v20 at hK d20 ⊢
                    subst v20
                    have z8 : decide ((ed : Int) ≤ (pe : Int)) = false := by simp; omega
                    have z9 : decide (ed ≤ pe) = false := by simp; omega
                    go_wp2
                    exact hK _ _ rfl (Mod.refl _ _)
                  refine opsOkA_cons ?_ ?_
                  · intro K vs W hR hD hK
                    have d8 : vs 8 = .bool false := hD 8 (by decide)
                    have d11 : vs 11 = .bool true := hD 11 (by decide)
                    have d21 : vs 21 = .bool false := hD 21 (by decide)
                    clear hD
                    try dsimp only at hK ⊢
                    simp only [Act.put, List.setIfInBounds_toArray, List.set_cons_succ, List.set_cons_zero] at hK
                    generalize vs 8 = v8 at hK d8 ⊢
                    subst v8
                    generalize vs 11 = v11 at hK d11 ⊢
                    subst v11
                    generalize vs 21 = v21 at hK d21 ⊢
                    subst v21
                    go_wp2
                    exact hK _ _ rfl (Mod.refl _ _)
                  refine opsOkA_cons ?_ ?_
                  · intro K vs W hR hD hK
                    have d8 : vs 8 = .bool false := hD 8 (by decide)
                    have d22 : vs 22 = .bool false := hD 22 (by decide)
                    clear hD
                    try dsimp only at hK ⊢
                    simp only [Act.put, List.setIfInBounds_toArray, List.set_cons_succ, List.set_cons_zero] at hK
                    generalize vs 8 = v8 at hK d8 ⊢
                    subst v8
                    generalize vs 22 = v22 at hK d22 ⊢
                    subst v22
                    go_wp2
                    exact hK _ _ rfl (Mod.refl _ _)
                  exact opsOkA_nil
                · intro vs wq13 hR hF
                  have d23 : vs 23 = .bool false := hF 23 (by decide)
                  clear hF
                  try dsimp only
                  generalize vs 23 = v23 at d23 ⊢
                  subst d23
                  replace HS := Lib.hid (HSd.out.step hR)
                  clear HSd hR
                  have hbbg := (HS.out.now).2.2.2.2.2.2.2.2.2.1
                  have qbg_0 := hbbg.cell 0 rfl
                  have qbg_1 := hbbg.cell 1 rfl
                  have qbg_2 := hbbg.cell 2 rfl
                  have lbg := hbbg.lt
                  clear hbbg
                  have hbnb := (HS.out.now).2.1
                  have qnb_0 := hbnb.cell 0 rfl
                  have qnb_1 := hbnb.cell 1 rfl
                  have qnb_2 := hbnb.cell 2 rfl
                  have lnb := hbnb.lt
                  clear hbnb
                  go_wp2_with fail
                  go_roundw
                  case rel => exact ⟨ki + 1, hlk, by go_num, (HS.out.now).2.2.2.1⟩
                  case measure => simp [intOf]; omega
              case neg =>
                obtain rfl : ki = 0 := by omega
                have z6 : decide ((0 : Int) < (0 : Int)) = false := by simp
                clear qbg_0 qbg_1 qbg_2 lbg
                go_upto_region 23 with fail
                have HSd := Lib.hid HS.out.drew
                refine wp_region_inv3 (act := ?actgw_r23_3) (Mod (fun _ => False)) (fun i => (gw_r23_3_F 0 p bg nb eb eo 0 0 j ed 0 li ci 0 ai ux 0 uz).getD i (fun _ _ => True)) (fun i => gw_r23_3_D.getD i []) (by kernel_rfl) (by kernel_rfl) (by kernel_rfl) (by kernel_rfl) (fun _ => Mod.refl _ _)
                  (fun _ _ _ h k => h.trans k (fun _ _ e => e) (fun _ _ e => e)) ?hactgw_r23_3 (stable_list ?_) ?_ ?_
                case hactgw_r23_3 => intro vs; simp only [putAll, Nat.zero_add, Nat.reduceAdd, Act.put, List.setIfInBounds_toArray, List.set_cons_succ, List.set_cons_zero]; exact rfl
                · unfold gw_r23_3_F
                  exact stable_cons (stable_val _) <| stable_cons (stable_val _) <| stable_cons (stable_val _) <| stable_cons (stable_val _) <| stable_cons (stable_val _) <| stable_cons (stable_val _) <| stable_cons (stable_val _) <| stable_cons (stable_val _) <| stable_cons (stable_val _) <| stable_cons (stable_val _) <| stable_cons (stable_val _) <| stable_cons (stable_val _) <| stable_cons (stable_val _) <| stable_cons (stable_val _) <| stable_cons (stable_val _) <| stable_cons (stable_val _) <| stable_cons (stable_val _) <| stable_cons (stable_val _) <| stable_cons (stable_val _) <| stable_cons (stable_val _) <| stable_cons (stable_val _) <| stable_cons (stable_val _) <| stable_cons (stable_val _) <| stable_cons (stable_val _) <| stable_nil
                · refine opsOkA_cons ?_ ?_
                  · intro K vs W hR hD hK
                    clear hD
                    try dsimp only at hK ⊢
                    simp only [Act.put, List.setIfInBounds_toArray, List.set_cons_succ, List.set_cons_zero] at hK
                    go_wp2
                    exact hK _ _ rfl (Mod.refl _ _)
                  refine opsOkA_cons ?_ ?_
                  · intro K vs W hR hD hK
                    have d0 : vs 0 = .bool true := hD 0 (by decide)
                    clear hD
                    try dsimp only at hK ⊢
                    simp only [Act.put, List.setIfInBounds_toArray, List.set_cons_succ, List.set_cons_zero] at hK
                    generalize vs 0 = v0 at hK d0 ⊢
                    subst v0
                    go_wp2
                    exact hK _ _ rfl (Mod.refl _ _)
                  refine opsOkA_cons ?_ ?_
                  · intro K vs W hR hD hK
                    have d1 : vs 1 = .bool false := hD 1 (by decide)
                    clear hD
                    try dsimp only at hK ⊢
                    simp only [Act.put, List.setIfInBounds_toArray, List.set_cons_succ, List.set_cons_zero] at hK
                    generalize vs 1 = v1 at hK d1 ⊢
                    subst v1
                    go_wp2
                    exact hK _ _ rfl (Mod.refl _ _)
                  refine opsOkA_cons ?_ ?_
                  · intro K vs W hR hD hK
                    have d2 : vs 2 = .bool false := hD 2 (by decide)
                    clear hD
                    try dsimp only at hK ⊢
                    simp only [Act.put, List.setIfInBounds_toArray, List.set_cons_succ, List.set_cons_zero] at hK
                    generalize vs 2 = v2 at hK d2 ⊢
                    subst v2
                    go_wp2
                    exact hK _ _ rfl (Mod.refl _ _)
                  refine opsOkA_cons ?_ ?_
                  · intro K vs W hR hD hK
                    have d2 : vs 2 = .bool false := hD 2 (by decide)
                    have d3 : vs 3 = .pointer (some ⟨nb, 1, none⟩) := hD 3 (by decide)
                    clear hD
                    try dsimp only at hK ⊢
                    simp only [Act.put, List.setIfInBounds_toArray, List.set_cons_succ, List.set_cons_zero] at hK
                    generalize vs 2 = v2 at hK d2 ⊢
                    subst v2
                    generalize vs 3 = v3 at hK d3 ⊢
                    subst v3
                    have q0 := ((HSd.out.at (hR)).1).cell 1 rfl
                    go_wp2
                    exact hK _ _ rfl (Mod.refl _ _)
                  refine opsOkA_cons ?_ ?_
                  · intro K vs W hR hD hK
                    have d2 : vs 2 = .bool false := hD 2 (by decide)
                    clear hD
                    try dsimp only at hK ⊢
                    simp only [Act.put, List.setIfInBounds_toArray, List.set_cons_succ, List.set_cons_zero] at hK
                    generalize vs 2 = v2 at hK d2 ⊢
                    subst v2
                    go_wp2
                    exact hK _ _ rfl (Mod.refl _ _)
                  refine opsOkA_cons ?_ ?_
                  · intro K vs W hR hD hK
                    have d2 : vs 2 = .bool false := hD 2 (by decide)
                    have d4 : vs 4 = .int .i64 (j : Int) := hD 4 (by decide)
                    have d5 : vs 5 = .int .i64 (j : Int) := hD 5 (by decide)
                    clear hD
                    try dsimp only at hK ⊢
                    simp only [Act.put, List.setIfInBounds_toArray, List.set_cons_succ, List.set_cons_zero] at hK
                    generalize vs 2 = v2 at hK d2 ⊢
                    subst v2
                    generalize vs 4 = v4 at hK d4 ⊢
                    subst v4
                    generalize vs 5 = v5 at hK d5 ⊢
                    subst v5
                    go_wp2
                    exact hK _ _ rfl (Mod.refl _ _)
                  refine opsOkA_cons ?_ ?_
                  · intro K vs W hR hD hK
                    have d2 : vs 2 = .bool false := hD 2 (by decide)
                    have d6 : vs 6 = .bool false := hD 6 (by decide)
                    clear hD
                    try dsimp only at hK ⊢
                    simp only [Act.put, List.setIfInBounds_toArray, List.set_cons_succ, List.set_cons_zero] at hK
                    generalize vs 2 = v2 at hK d2 ⊢
                    subst v2
                    generalize vs 6 = v6 at hK d6 ⊢
                    subst v6
                    go_wp2
                    exact hK _ _ rfl (Mod.refl _ _)
                  refine opsOkA_cons ?_ ?_
                  · intro K vs W hR hD hK
                    have d7 : vs 7 = .bool false := hD 7 (by decide)
                    clear hD
                    try dsimp only at hK ⊢
                    simp only [Act.put, List.setIfInBounds_toArray, List.set_cons_succ, List.set_cons_zero] at hK
                    generalize vs 7 = v7 at hK d7 ⊢
                    subst v7
                    go_wp2
                    exact hK _ _ rfl (Mod.refl _ _)
                  refine opsOkA_cons ?_ ?_
                  · intro K vs W hR hD hK
                    have d8 : vs 8 = .bool false := hD 8 (by decide)
                    clear hD
                    try dsimp only at hK ⊢
                    simp only [Act.put, List.setIfInBounds_toArray, List.set_cons_succ, List.set_cons_zero] at hK
                    generalize vs 8 = v8 at hK d8 ⊢
                    subst v8
                    go_wp2
                    exact hK _ _ rfl (Mod.refl _ _)
                  refine opsOkA_cons ?_ ?_
                  · intro K vs W hR hD hK
                    have d8 : vs 8 = .bool false := hD 8 (by decide)
                    have d9 : vs 9 = .int .i64 0 := hD 9 (by decide)
                    clear hD
                    try dsimp only at hK ⊢
                    simp only [Act.put, List.setIfInBounds_toArray, List.set_cons_succ, List.set_cons_zero] at hK
                    generalize vs 8 = v8 at hK d8 ⊢
                    subst v8
                    generalize vs 9 = v9 at hK d9 ⊢
                    subst v9
                    go_wp2
                    exact hK _ _ rfl (Mod.refl _ _)
                  refine opsOkA_cons ?_ ?_
                  · intro K vs W hR hD hK
                    have d8 : vs 8 = .bool false := hD 8 (by decide)
                    have d10 : vs 10 = .bool false := hD 10 (by decide)
                    clear hD
                    try dsimp only at hK ⊢
                    simp only [Act.put, List.setIfInBounds_toArray, List.set_cons_succ, List.set_cons_zero] at hK
                    generalize vs 8 = v8 at hK d8 ⊢
                    subst v8
                    generalize vs 10 = v10 at hK d10 ⊢
                    subst v10
                    go_wp2
                    exact hK _ _ rfl (Mod.refl _ _)
                  refine opsOkA_cons ?_ ?_
                  · intro K vs W hR hD hK
                    have d11 : vs 11 = .bool false := hD 11 (by decide)
                    clear hD
                    try dsimp only at hK ⊢
                    simp only [Act.put, List.setIfInBounds_toArray, List.set_cons_succ, List.set_cons_zero] at hK
                    generalize vs 11 = v11 at hK d11 ⊢
                    subst v11
                    go_wp2
                    exact hK _ _ rfl (Mod.refl _ _)
                  refine opsOkA_cons ?_ ?_
                  · intro K vs W hR hD hK
                    have d11 : vs 11 = .bool false := hD 11 (by decide)
                    clear hD
                    try dsimp only at hK ⊢
                    simp only [Act.put, List.setIfInBounds_toArray, List.set_cons_succ, List.set_cons_zero] at hK
                    generalize vs 11 = v11 at hK d11 ⊢
                    subst v11
                    go_wp2
                    exact hK _ _ rfl (Mod.refl _ _)
                  refine opsOkA_cons ?_ ?_
                  · intro K vs W hR hD hK
                    have d11 : vs 11 = .bool false := hD 11 (by decide)
                    clear hD
                    try dsimp only at hK ⊢
                    simp only [Act.put, List.setIfInBounds_toArray, List.set_cons_succ, List.set_cons_zero] at hK
                    generalize vs 11 = v11 at hK d11 ⊢
                    subst v11
                    go_wp2
                    exact hK _ _ rfl (Mod.refl _ _)
                  refine opsOkA_cons ?_ ?_
                  · intro K vs W hR hD hK
                    have d11 : vs 11 = .bool false := hD 11 (by decide)
                    clear hD
                    try dsimp only at hK ⊢
                    simp only [Act.put, List.setIfInBounds_toArray, List.set_cons_succ, List.set_cons_zero] at hK
                    generalize vs 11 = v11 at hK d11 ⊢
                    subst v11
                    go_wp2_with fail
                    exact hK _ _ rfl (Mod.refl _ _)
                  refine opsOkA_cons ?_ ?_
                  · intro K vs W hR hD hK
                    have d11 : vs 11 = .bool false := hD 11 (by decide)
                    clear hD
                    try dsimp only at hK ⊢
                    simp only [Act.put, List.setIfInBounds_toArray, List.set_cons_succ, List.set_cons_zero] at hK
                    generalize vs 11 = v11 at hK d11 ⊢
                    subst v11
                    go_wp2
                    exact hK _ _ rfl (Mod.refl _ _)
                  refine opsOkA_cons ?_ ?_
                  · intro K vs W hR hD hK
                    have d11 : vs 11 = .bool false := hD 11 (by decide)
                    clear hD
                    try dsimp only at hK ⊢
                    simp only [Act.put, List.setIfInBounds_toArray, List.set_cons_succ, List.set_cons_zero] at hK
                    generalize vs 11 = v11 at hK d11 ⊢
                    subst v11
                    go_wp2
                    exact hK _ _ rfl (Mod.refl _ _)
                  refine opsOkA_cons ?_ ?_
                  · intro K vs W hR hD hK
                    have d11 : vs 11 = .bool false := hD 11 (by decide)
                    clear hD
                    try dsimp only at hK ⊢
                    simp only [Act.put, List.setIfInBounds_toArray, List.set_cons_succ, List.set_cons_zero] at hK
                    generalize vs 11 = v11 at hK d11 ⊢
                    subst v11
                    go_wp2
                    exact hK _ _ rfl (Mod.refl _ _)
                  refine opsOkA_cons ?_ ?_
                  · intro K vs W hR hD hK
                    have d11 : vs 11 = .bool false := hD 11 (by decide)
                    clear hD
                    try dsimp only at hK ⊢
                    simp only [Act.put, List.setIfInBounds_toArray, List.set_cons_succ, List.set_cons_zero] at hK
                    generalize vs 11 = v11 at hK d11 ⊢
                    subst v11
                    go_wp2_with fail
                    exact hK _ _ rfl (Mod.refl _ _)
                  refine opsOkA_cons ?_ ?_
                  · intro K vs W hR hD hK
                    have d11 : vs 11 = .bool false := hD 11 (by decide)
                    clear hD
                    try dsimp only at hK ⊢
                    simp only [Act.put, List.setIfInBounds_toArray, List.set_cons_succ, List.set_cons_zero] at hK
                    generalize vs 11 = v11 at hK d11 ⊢
                    subst v11
                    go_wp2
                    exact hK _ _ rfl (Mod.refl _ _)
                  refine opsOkA_cons ?_ ?_
                  · intro K vs W hR hD hK
                    have d11 : vs 11 = .bool false := hD 11 (by decide)
                    clear hD
                    try dsimp only at hK ⊢
                    simp only [Act.put, List.setIfInBounds_toArray, List.set_cons_succ, List.set_cons_zero] at hK
                    generalize vs 11 = v11 at hK d11 ⊢
                    subst v11
                    go_wp2
                    exact hK _ _ rfl (Mod.refl _ _)
                  refine opsOkA_cons ?_ ?_
                  · intro K vs W hR hD hK
                    have d8 : vs 8 = .bool false := hD 8 (by decide)
                    have d11 : vs 11 = .bool false := hD 11 (by decide)
                    have d21 : vs 21 = undef := hD 21 (by decide)
                    clear hD
                    try dsimp only at hK ⊢
                    simp only [Act.put, List.setIfInBounds_toArray, List.set_cons_succ, List.set_cons_zero] at hK
                    generalize vs 8 = v8 at hK d8 ⊢
                    subst v8
                    generalize vs 11 = v11 at hK d11 ⊢
                    subst v11
                    generalize vs 21 = v21 at hK d21 ⊢
                    subst v21
                    go_wp2
                    exact hK _ _ rfl (Mod.refl _ _)
                  refine opsOkA_cons ?_ ?_
                  · intro K vs W hR hD hK
                    have d8 : vs 8 = .bool false := hD 8 (by decide)
                    have d22 : vs 22 = .bool false := hD 22 (by decide)
                    clear hD
                    try dsimp only at hK ⊢
                    simp only [Act.put, List.setIfInBounds_toArray, List.set_cons_succ, List.set_cons_zero] at hK
                    generalize vs 8 = v8 at hK d8 ⊢
                    subst v8
                    generalize vs 22 = v22 at hK d22 ⊢
                    subst v22
                    go_wp2
                    exact hK _ _ rfl (Mod.refl _ _)
                  exact opsOkA_nil
                · intro vs wq14 hR hF
                  have d23 : vs 23 = .bool false := hF 23 (by decide)
                  clear hF
                  try dsimp only
                  generalize vs 23 = v23 at d23 ⊢
                  subst d23
                  replace HS := Lib.hid (HSd.out.step hR)
                  clear HSd hR
                  have hbbg := (HS.out.now).2.2.2.2.2.2.2.2.1
                  have qbg_0 := hbbg.cell 0 rfl
                  have qbg_1 := hbbg.cell 1 rfl
                  have qbg_2 := hbbg.cell 2 rfl
                  have lbg := hbbg.lt
                  clear hbbg
                  have hbnb := (HS.out.now).1
                  have qnb_0 := hbnb.cell 0 rfl
                  have qnb_1 := hbnb.cell 1 rfl
                  have qnb_2 := hbnb.cell 2 rfl
                  have lnb := hbnb.lt
                  clear hbnb
                  go_wp2_with fail
                  go_roundw
                  case rel => exact ⟨1, hlk, by go_num, (HS.out.now).2.2.1⟩
                  case measure => simp [intOf]; omega
            case neg =>
              have z5 : decide ((ki : Int) < (li : Int)) = false := by simp; omega
              go_wp2_with fail
              go_roundw
              case rel => exact ⟨j + 1, x + lo, y + li, hlt, by go_num, by go_num, by go_num, by rw [show ((j + 1 : Nat) : Int) = (j : Int) + 1 by omega, below_next, ← HX.out, ← HLo.out, gOut_of G j hjl], by rw [show ((j + 1 : Nat) : Int) = (j : Int) + 1 by omega, below_next, ← HY.out, ← HLi.out, gIn_of G j hjl], (HS.out.now).2.2.2.2.1⟩
              case measure => simp [intOf]; omega
    case neg =>
      obtain rfl : j = n1 := by omega
      have z0 : decide ((j : Int) < (j : Int)) = false := by simp
      obtain rfl : x = n2 := by rw [HX.out, ← hn.out, below_all (keysF hmay.out), List.length_map, he.out]
      obtain rfl : y = x := by rw [HY.out, ← hn.out, below_all (keysT hmay.out), List.length_map, he.out]
      have Ro := out_row p B C wo G ((HS.out.now).2.1) odd
      obtain ⟨la, hla⟩ : ∃ n, (gOut G odd).length = n := ⟨_, rfl⟩
      obtain ⟨lb, hlb⟩ : ∃ n, (gIn G odd).length = n := ⟨_, rfl⟩
      clear Ro
      obtain ⟨nd, hnd⟩ : ∃ b, decide (0 ≤ odd ∧ odd < (G.N.length : Int)) = b := ⟨_, rfl⟩
      have hcase : nd = false → la = 0 ∧ lb = 0 := fun h => by rw [h] at hnd; have h2 := of_decide_eq_false hnd; rw [gOut_no G odd h2] at hla; rw [gIn_no G odd h2] at hlb; exact ⟨hla.symm, hlb.symm⟩
      have HLA := Lib.hid hla
      have HLB := Lib.hid hlb
      have HND := Lib.hid hnd
      have HCASE := Lib.hid hcase
      clear hla hlb hnd hcase
      have z3 : (la == 0) = false ∨ la = 0 := by by_cases h : la = 0; exact .inr h; exact .inl (by simpa using h)
      by_cases hla : la = 0
      case neg =>
        obtain rfl : nd = true := by cases nd with | true => rfl | false => exact absurd (HCASE.out rfl).1 hla
        have z4 : ((la : Int) == 0) = false := by rw [beq_eq_false_iff_ne]; omega
        clear z3
        go_wp2_with fail
        refine (out_row p B C _ G ((HS.out.now).2.1) odd).mono ?_
        rintro e wq15 ⟨x', rfl, ⟨ax, cx, rfl, hx'⟩, hmm⟩
        replace HS := Lib.hid (HS.out.step hmm)
        clear hmm
        clear hx'
        rw [HLA.out]
        clear qbg_0 qbg_1 qbg_2 lbg
        have hbbg := (HS.out.now).2.2.1
        have qbg_0 := hbbg.cell 0 rfl
        have qbg_1 := hbbg.cell 1 rfl
        have qbg_2 := hbbg.cell 2 rfl
        have lbg := hbbg.lt
        clear hbbg
        go_wp2_with fail
        refine (r4node_any G _ a1 _ d1 a2 _ d2 a3 _ d3 ((HS.out.now).2.2.2.1) (by omega) odd).mono ?_
        rintro e wq16 ⟨rfl, hmm⟩
        replace HS := Lib.hid (HS.out.step hmm)
        clear hmm
        clear qbg_0 qbg_1 qbg_2 lbg
        have hbbg := (HS.out.now).2.2.1
        have qbg_0 := hbbg.cell 0 rfl
        have qbg_1 := hbbg.cell 1 rfl
        have qbg_2 := hbbg.cell 2 rfl
        have lbg := hbbg.lt
        clear hbbg
        rw [HND.out]
        go_wp2_with fail
        refine (awake_any _).mono ?_
        rintro e wq17 ⟨rfl, hmm⟩
        replace HS := Lib.hid (HS.out.step hmm)
        clear hmm
        clear qbg_0 qbg_1 qbg_2 lbg
        have hbbg := (HS.out.now).2.2.1
        have qbg_0 := hbbg.cell 0 rfl
        have qbg_1 := hbbg.cell 1 rfl
        have qbg_2 := hbbg.cell 2 rfl
        have lbg := hbbg.lt
        clear hbbg
        go_wp2_with fail
        go_ret
        exact ⟨rfl, (HS.out.now).2.2.2.2.2⟩
      by_cases hlb : lb = 0
      case neg =>
        obtain rfl : nd = true := by cases nd with | true => rfl | false => exact absurd (HCASE.out rfl).2 hlb
        obtain rfl : la = 0 := hla
        have z4 : ((lb : Int) == 0) = false := by rw [beq_eq_false_iff_ne]; omega
        clear z3
        go_wp2_with fail
        refine (out_row p B C _ G ((HS.out.now).2.1) odd).mono ?_
        rintro e wq18 ⟨x', rfl, ⟨ax, cx, rfl, hx'⟩, hmm⟩
        replace HS := Lib.hid (HS.out.step hmm)
        clear hmm
        clear hx'
        rw [HLA.out]
        clear qbg_0 qbg_1 qbg_2 lbg
        have hbbg := (HS.out.now).2.2.1
        have qbg_0 := hbbg.cell 0 rfl
        have qbg_1 := hbbg.cell 1 rfl
        have qbg_2 := hbbg.cell 2 rfl
        have lbg := hbbg.lt
        clear hbbg
        go_wp2_with fail
        refine (in_row p B C _ G ((HS.out.now).2.1) odd).mono ?_
        rintro e wq19 ⟨x', rfl, ⟨ay, cy, rfl, hx'⟩, hmm⟩
        replace HS := Lib.hid (HS.out.step hmm)
        clear hmm
        clear hx'
        rw [HLB.out]
        clear qbg_0 qbg_1 qbg_2 lbg
        have hbbg := (HS.out.now).2.2.1
        have qbg_0 := hbbg.cell 0 rfl
        have qbg_1 := hbbg.cell 1 rfl
        have qbg_2 := hbbg.cell 2 rfl
        have lbg := hbbg.lt
        clear hbbg
        go_wp2_with fail
        refine (r4node_any G _ a1 _ d1 a2 _ d2 a3 _ d3 ((HS.out.now).2.2.2.1) (by omega) odd).mono ?_
        rintro e wq20 ⟨rfl, hmm⟩
        replace HS := Lib.hid (HS.out.step hmm)
        clear hmm
        clear qbg_0 qbg_1 qbg_2 lbg
        have hbbg := (HS.out.now).2.2.1
        have qbg_0 := hbbg.cell 0 rfl
        have qbg_1 := hbbg.cell 1 rfl
        have qbg_2 := hbbg.cell 2 rfl
        have lbg := hbbg.lt
        clear hbbg
        rw [HND.out]
        go_wp2_with fail
        refine (awake_any _).mono ?_
        rintro e wq21 ⟨rfl, hmm⟩
        replace HS := Lib.hid (HS.out.step hmm)
        clear hmm
        clear qbg_0 qbg_1 qbg_2 lbg
        have hbbg := (HS.out.now).2.2.1
        have qbg_0 := hbbg.cell 0 rfl
        have qbg_1 := hbbg.cell 1 rfl
        have qbg_2 := hbbg.cell 2 rfl
        have lbg := hbbg.lt
        clear hbbg
        go_wp2_with fail
        go_ret
        exact ⟨rfl, (HS.out.now).2.2.2.2.2⟩
      obtain rfl : la = 0 := hla
      obtain rfl : lb = 0 := hlb
      clear z3
      go_wp2_with fail
      refine (out_row p B C _ G ((HS.out.now).2.1) odd).mono ?_
      rintro e wq22 ⟨x', rfl, ⟨ax, cx, rfl, hx'⟩, hmm⟩
      replace HS := Lib.hid (HS.out.step hmm)
      clear hmm
      clear hx'
      rw [HLA.out]
      clear qbg_0 qbg_1 qbg_2 lbg
      have hbbg := (HS.out.now).2.2.1
      have qbg_0 := hbbg.cell 0 rfl
      have qbg_1 := hbbg.cell 1 rfl
      have qbg_2 := hbbg.cell 2 rfl
      have lbg := hbbg.lt
      clear hbbg
      go_wp2_with fail
      refine (in_row p B C _ G ((HS.out.now).2.1) odd).mono ?_
      rintro e wq23 ⟨x', rfl, ⟨ay, cy, rfl, hx'⟩, hmm⟩
      replace HS := Lib.hid (HS.out.step hmm)
      clear hmm
      clear hx'
      rw [HLB.out]
      clear qbg_0 qbg_1 qbg_2 lbg
      have hbbg := (HS.out.now).2.2.1
      have qbg_0 := hbbg.cell 0 rfl
      have qbg_1 := hbbg.cell 1 rfl
      have qbg_2 := hbbg.cell 2 rfl
      have lbg := hbbg.lt
      clear hbbg
      go_wp2_with fail
      refine (awake_any _).mono ?_
      rintro e wq24 ⟨rfl, hmm⟩
      replace HS := Lib.hid (HS.out.step hmm)
      clear hmm
      clear qbg_0 qbg_1 qbg_2 lbg
      have hbbg := (HS.out.now).2.2.1
      have qbg_0 := hbbg.cell 0 rfl
      have qbg_1 := hbbg.cell 1 rfl
      have qbg_2 := hbbg.cell 2 rfl
      have lbg := hbbg.lt
      clear hbbg
      go_wp2_with fail
      go_ret
      exact ⟨rfl, (HS.out.now).2.2.2.2.2⟩
theorem grows_law (w : World) (a0 : Option Addr) (m c0 : Nat) (l : List Int) (ok : (encSlice (encInt .i64)).ok w (.slice a0 m c0, l)) (odd : Int) (_ : (Lit.int .i64 odd).wf = true) :
    Calls Try.prog 4 #[.slice a0 m c0, .int .i64 odd] w fun e w' => e = .returned (.bool true) ∧ Below w.heap.size w w' := by
  obtain ⟨hn, hr, _⟩ := ok_ints ok
  exact (grows_all w a0 m c0 l hn hr odd).mono fun e w' h => ⟨h.1, h.2.below (Nat.le_refl _) (fun _ e => e.elim)⟩
end Go.Proofs.Ytnibokikmckfiaa
