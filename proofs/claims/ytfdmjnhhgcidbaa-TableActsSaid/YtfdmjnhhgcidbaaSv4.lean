/- The reference's Server.add by contract. -/
import Derived.Test.YtfdmjnhhgcidbaaSv3
import Derived.Test.YtfdmjnhhgcidbaaIMap
namespace Go.Proofs.Ytfdmjnhhgcidbaa
open Go.RowKit Mile
set_option maxRecDepth 100000
theorem seV_one (L : List SE) : ∀ u ∈ L.map seV, u.oneCell' = true := by
  intro u hu
  obtain ⟨x, _, rfl⟩ := List.mem_map.1 hu
  rfl
theorem SV.great {w : World} {q M : Nat} {a : Option Addr} {n c : Nat} {gr : Nat → Int} {L : List SE} (h : SV w q M a n c gr L) {i : Nat} (hi : i < 16) (y : Int) : SV (w.setCell ⟨q, 12 + i, none⟩ (.int .i64 y)) q M a n c (updT gr i y) L ∧ Mod (fun k => k = q) w (w.setCell ⟨q, 12 + i, none⟩ (.int .i64 y)) := by
  have hset : Mod (fun k => k = q) w (w.setCell ⟨q, 12 + i, none⟩ (.int .i64 y)) := Mod.setCell _ _ _ rfl
  obtain ⟨g1, g2, g3, xv, hblk⟩ := h.blk
  have hb2 := hblk.set (12 + i) (.int .i64 y)
  rw [svC_setG _ _ _ _ _ _ _ hi] at hb2
  exact ⟨⟨h.m1, h.m16, h.len, ⟨g1, g2, g3, xv, hb2⟩, h.rd.keepA hset (fun k hk e => sv_nil (by rw [h.len]; exact h.ne k hk e)), h.ne, fun x hx => (h.ents x hx).keep hset (fun _ _ e => e)⟩, hset⟩
theorem Ev.sv {w : World} {q M : Nat} {a : Option Addr} {n c : Nat} {gr : Nat → Int} {L : List SE} (h : SV w q M a n c gr L) : Ev (fun W => SV W q M a n c gr L) w := fun _ m => h.later m
theorem Ev.se {w : World} {q : Nat} {x : SE} (h : SEin w q x) : Ev (fun W => SEin W q x) w := fun _ m => h.keep m (fun _ _ e => e.elim)
/-- What each operation of the statement leaves. -/
def sv_r4_0_F (q : Nat) (n2 : Nat) (c2 : Nat) (xe : Nat) (j : Nat) (B0 : Nat) (a2 : Option Addr) (L2 : List SE) : List FactP :=
  [(true, fun _ => IsV (.pointer (some ⟨q, 0, none⟩))),
   (false, fun _ => EmpT 100 1 B0),
   (true, fun _ => IsV (.pointer (some ⟨q, 0, none⟩))),
   (true, fun _ => IsV (.pointer (some ⟨q, 0, none⟩))),
   (true, fun _ => IsV (.pointer (some ⟨q, 11, none⟩))),
   (true, fun _ => IsV (.slice a2 n2 c2)),
   (true, fun _ => IsV (.int .i64 (j : Int))),
   (true, fun _ => IsV (.slice a2 j c2)),
   (false, fun _ => OwnT 100 1 B0 (j) ((L2.take j).map seV)),
   (true, fun _ => IsV (.pointer (some ⟨xe, 0, none⟩))),
   (false, fun _ => LitT 1 [.pointer (some ⟨xe, 0, none⟩)]),
   (false, fun _ => OwnT 100 1 B0 (j + 1) ((L2.take j).map seV ++ [.pointer (some ⟨xe, 0, none⟩)])),
   (true, fun _ => IsV (.pointer (some ⟨q, 0, none⟩))),
   (true, fun _ => IsV (.pointer (some ⟨q, 0, none⟩))),
   (true, fun _ => IsV (.pointer (some ⟨q, 11, none⟩))),
   (true, fun _ => IsV (.slice a2 n2 c2)),
   (true, fun _ => IsV (.int .i64 (j : Int))),
   (true, fun _ => IsV (.slice (dropA a2 c2 j 1) (n2 - j) (c2 - j))),
   (false, fun _ => OwnT 100 1 B0 (j + 1 + (n2 - j)) ((L2.take j).map seV ++ [.pointer (some ⟨xe, 0, none⟩)] ++ (L2.drop j).map seV)),
   (true, fun _ => IsV (.pointer (some ⟨q, 0, none⟩))),
   (true, fun _ => IsV (.pointer (some ⟨q, 11, none⟩)))]
def sv_r4_0_D : List (List Nat) := [[], [], [], [2], [3], [4], [], [5, 6], [1, 7], [], [9], [8, 10], [], [12], [13], [14], [], [15, 16], [11, 17], [0], [19]]
def sv_r4_0_C : List Nat := [1000, 8, 1000, 1000, 1000, 1000, 1000, 1000, 11, 1000, 11, 18, 1000, 1000, 1000, 1000, 1000, 1000, 1000, 1000, 1000]

/-- What each operation of the statement leaves. -/
def sv_r4_1_F (q : Nat) (n2 : Nat) (c2 : Nat) (xe : Nat) (j : Nat) (B0 : Nat) (a2 : Option Addr) (L2 : List SE) : List FactP :=
  [(true, fun _ => IsV (.pointer (some ⟨q, 0, none⟩))),
   (false, fun _ => EmpT 100 1 B0),
   (true, fun _ => IsV (.pointer (some ⟨q, 0, none⟩))),
   (true, fun _ => IsV (.pointer (some ⟨q, 0, none⟩))),
   (true, fun _ => IsV (.pointer (some ⟨q, 11, none⟩))),
   (true, fun _ => IsV (.slice a2 n2 c2)),
   (true, fun _ => IsV (.int .i64 (j : Int))),
   (true, fun _ => IsV (.slice a2 j c2)),
   (false, fun _ => OwnT 100 1 B0 (j) ((L2.take j).map seV)),
   (true, fun _ => IsV (.pointer (some ⟨xe, 0, none⟩))),
   (false, fun _ => LitT 1 [.pointer (some ⟨xe, 0, none⟩)]),
   (false, fun _ => OwnT 100 1 B0 (j + 1) ((L2.take j).map seV ++ [.pointer (some ⟨xe, 0, none⟩)])),
   (true, fun _ => IsV (.pointer (some ⟨q, 0, none⟩))),
   (true, fun _ => IsV (.pointer (some ⟨q, 0, none⟩))),
   (true, fun _ => IsV (.pointer (some ⟨q, 11, none⟩))),
   (true, fun _ => IsV (.slice a2 n2 c2)),
   (true, fun _ => IsV (.int .i64 (j : Int))),
   (true, fun _ => IsV (.slice (dropA a2 c2 j 1) (n2 - j) (c2 - j))),
   (false, fun _ => OwnT 100 1 B0 (j + 1 + (n2 - j)) ((L2.take j).map seV ++ [.pointer (some ⟨xe, 0, none⟩)] ++ (L2.drop j).map seV)),
   (true, fun _ => IsV (.pointer (some ⟨q, 0, none⟩))),
   (true, fun _ => IsV (.pointer (some ⟨q, 11, none⟩)))]
def sv_r4_1_D : List (List Nat) := [[], [], [], [2], [3], [4], [], [5, 6], [1, 7], [], [9], [8, 10], [], [12], [13], [14], [], [15, 16], [11, 17], [0], [19]]
def sv_r4_1_C : List Nat := [1000, 8, 1000, 1000, 1000, 1000, 1000, 1000, 11, 1000, 11, 18, 1000, 1000, 1000, 1000, 1000, 1000, 1000, 1000, 1000]

set_option maxHeartbeats 32000000 in
theorem svadd_any (w : World) (q M : Nat) (a : Option Addr) (n c : Nat) (gr : Nat → Int) (L : List SE) (es : Nat → TbE) (h : SV w q M a n c gr L) (hL : SvR es gr L) (hn16 : n ≤ 16) (x : SE) (hx : SEin w q x) (hi : x.peer < 16) (yv : Nat × Value) :
    Calls Try.prog 74 #[.pointer (some ⟨q, 0, none⟩), .pointer (some ⟨x.eb, 0, none⟩)] w fun e w' => e = .returned (.tuple #[]) ∧ ∃ a' n' c' L', SV w' q M a' n' c' (updT gr x.peer x.conn) L' ∧ SvR (updT es x.peer (some yv)) (updT gr x.peer x.conn) L' ∧ Mod (fun k => k = q) w w' := by
  obtain ⟨iE, hiE, hzE, hsE, hbE⟩ := info_parts Sv.infoE
  obtain ⟨iI, hiI, hzI, hsI, hbI⟩ := info_parts Tb.infoI
  obtain ⟨ip, hip⟩ : ∃ y, x.peer = y := ⟨_, rfl⟩
  obtain ⟨xe, hxe⟩ : ∃ y, x.eb = y := ⟨_, rfl⟩
  have hxe0 := hx.e.cell 0 rfl
  rw [hip] at hi
  rw [hxe, hip] at hxe0
  have HT := Lib.hid h
  have HL := Lib.hid hL
  have HX := Lib.hid hx
  have HIP := Lib.hid hip
  have HXE := Lib.hid hxe
  have HD := Lib.hid (svdrop_any h hn16 (ip : Int))
  rw [hxe]
  clear h hL hx hip hxe
  go_enter Try.func74, Try.ntmps74
  go_wp2_with fail
  refine HD.out.mono ?_
  rintro e w1 ⟨rfl, a2, n2, c2, hs1, hm1⟩
  have HX1 := Lib.hid (HX.out.keep hm1 (fun _ _ e => e))
  have HS1 := Lib.hid hs1
  have HM1 := Lib.hid hm1
  obtain ⟨L2, hL2⟩ : ∃ y, dropS L (ip : Int) = y := ⟨_, rfl⟩
  have HL2 := Lib.hid hL2
  rw [hL2] at HS1
  have hlen2 := HS1.out.len
  have hn2 : n2 ≤ 16 := by
    have h1 : (dropS L (ip : Int)).length ≤ L.length := List.length_filter_le _ _
    have h2 := HT.out.len
    rw [hL2] at h1
    omega
  clear hs1 hm1 hL2 HD hxe0 HX
  go_wp2_with fail
  go_loopw [4] (fun v wr => ∃ j : Nat, v = .int .i64 j ∧ j ≤ n2 ∧ (∀ y ∈ L2.take j, y.peer < ip) ∧ Mod (fun _ => False) w1 wr) (fun v _ => n2 - (intOf v).toNat)
  case atStart => exact ⟨0, rfl, Nat.zero_le _, fun y hy => (by simp at hy), Mod.refl _ _⟩
  case round =>
    obtain ⟨j, rfl, hj, hall, hmr⟩ := hrel
    obtain ⟨wo, hwo⟩ : ∃ y : World, y = wr := ⟨_, rfl⟩
    subst hwo
    have HALL := Lib.hid hall
    have HMR := Lib.hid hmr
    have HSO := Lib.hid (HS1.out.later hmr)
    have hxo := HX1.out.keep hmr (fun _ _ e => e.elim)
    have HXO := Lib.hid hxo
    have hxe0 := hxo.e.cell 0 rfl
    rw [HXE.out, HIP.out] at hxe0
    have cr := HSO.out.cellR
    clear hall hmr hxo
    by_cases hc : ∃ hjl : j < L2.length, L2[j].peer < ip
    case pos =>
      obtain ⟨hjl, hlt⟩ := hc
      have hjn : j < n2 := by omega
      have z0 : decide ((j : Int) < (n2 : Int)) = true := by simp; omega
      have z1 : decide (j < n2) = true := by simpa using hjn
      obtain ⟨eb, eo, hpl, e0, e1, _, _⟩ := HSO.out.at_ j hjl
      have hix := fun wx => run_indexS (P := Try.prog) wx 103 100 iE 1 Try.underlying103 hiE hsE a2 n2 c2 j hjn (HSO.out.rd.some_ (by omega))
      rw [hpl] at hix
      obtain ⟨y, hy⟩ : ∃ y, L2[j] = y := ⟨_, rfl⟩
      rw [hy] at e0 e1
      obtain ⟨ye, hye⟩ : ∃ z, y.eb = z := ⟨_, rfl⟩
      obtain ⟨yp, hyp⟩ : ∃ z, y.peer = z := ⟨_, rfl⟩
      rw [hye] at e0 e1
      rw [hyp] at e1
      have hsn : ∀ y ∈ L2.take (j + 1), y.peer < ip := fun y hy => by rw [List.take_succ_eq_append_getElem hjl, List.mem_append, List.mem_singleton] at hy; exact hy.elim (fun h => HALL.out y h) (fun h => by rw [h]; exact hlt)
      have HSN := Lib.hid hsn
      rw [hy, hyp] at hlt
      have z2 : decide ((yp : Int) < (ip : Int)) = true := by simp; omega
      have z3 : decide (yp < ip) = true := by simpa using hlt
      clear hsn hy hye hyp hpl hlt
      go_wp2_with fail
      go_quiet (fail)
      go_wp2_with fail
      go_roundw
      case rel => exact ⟨j + 1, by go_num, hjn, HSN.out, HMR.out.of2 (Mod.drewN _ _ _)⟩
      case measure => simp [intOf]; omega
    case neg =>
      have HC := Lib.hid hc
      clear hc
      have hgt : ∀ y ∈ L2.drop j, ip < y.peer := fun y hy => by
        obtain ⟨k, hk, rfl⟩ := List.mem_iff_getElem.1 hy
        rw [List.getElem_drop]
        have hkl : j + k < L2.length := by simp at hk; omega
        have hj0 : j < L2.length := by omega
        have h1 : ¬ L2[j].peer < ip := fun x => HC.out ⟨hj0, x⟩
        have h2 : ∀ y ∈ L2, y.peer ≠ ip := fun y hy e => by rw [← HL2.out] at hy; have := (List.mem_filter.1 hy).2; simp at this; omega
        have h2 := h2 _ (List.getElem_mem hj0)
        have hr : (L2.map (·.peer)).Pairwise (· < ·) := by rw [← HL2.out]; exact (HL.out.drop (ip : Int)).rise
        rcases Nat.eq_zero_or_pos k with rfl | hk0
        · simp only [Nat.add_zero]; omega
        · have h3 := List.pairwise_iff_getElem.1 hr j (j + k) (by simpa using hj0) (by simpa using hkl) (by omega)
          rw [List.getElem_map, List.getElem_map] at h3
          omega
      have HGT := Lib.hid hgt
      clear hgt
      have hgd : (decide ((j : Int) < (n2 : Int)) = false) ∨ (∃ hjl : j < L2.length, ip < L2[j].peer) := by
        by_cases h : j < L2.length
        · exact .inr ⟨h, HGT.out _ (List.mem_iff_getElem.2 ⟨0, by simp; omega, by rw [List.getElem_drop]; simp⟩)⟩
        · exact .inl (by simp; omega)
      have hnc : n2 ≤ c2 := by obtain ⟨_, _, _, h1, h2, _⟩ := HSO.out.rd; cases h1; exact h2
      have HTK := Lib.hid (fun wx => run_takeS (P := Try.prog) wx 103 100 iE Try.underlying103 hiE a2 n2 c2 j (by omega))
      have HDK := Lib.hid (fun wx => run_dropS (P := Try.prog) wx 103 100 iE 1 Try.underlying103 hiE hsE a2 n2 c2 j hj)
      rcases hgd with z0 | ⟨hjl, hge⟩
      · skip
        have z1 : decide (j < n2) = false := by have := z0; simp at this; simp; omega
        go_wp2_with fail
        go_quiet (fail)
        obtain ⟨wQ, hwQ⟩ : ∃ y, World.drewN wo nq = y := ⟨_, rfl⟩
        have hmq : Mod (fun _ => False) wo wQ := by rw [← hwQ]; exact Mod.drewN _ _ _
        have HMQ := Lib.hid (HMR.out.of2 hmq)
        have hsq := HSO.out.later hmq
        have hxq := HXO.out.keep hmq (fun _ _ e => e.elim)
        have hrt2 := hsq.rd.take (n := j) hj
        have hrd2 := hsq.rd.drop (n := j) hj
        rw [Nat.mul_one, ← List.map_take] at hrt2
        rw [Nat.mul_one, ← List.map_drop] at hrd2
        rw [hwQ]
        clear hwQ hmq cr hxe0
        have HS : Hid (Ev (Mod (fun _ => False) wQ) wQ) := Lib.hid (Ev.mod wQ)
        replace HS := Lib.hid ((Ev.sv hsq).and HS.out)
        replace HS := Lib.hid ((Ev.se hxq).and HS.out)
        replace HS := Lib.hid ((Ev.rd hrt2).and HS.out)
        replace HS := Lib.hid ((Ev.rd hrd2).and HS.out)
        clear hsq hxq hrt2 hrd2
        go_wp2_with fail
        obtain ⟨B0, hB0⟩ : ∃ n, wQ.heap.size = n := ⟨_, rfl⟩
        have HB0 := Lib.hid hB0
        clear hB0
        have HOLD : Hid (∀ W, Mod (fun k => B0 ≤ k) (World.drew wQ) W → Mod (fun _ => False) (World.drew wQ) W) := Lib.hid fun W h => h.mono (fun i hi e => by have := HB0.out; simp at hi; omega)
        go_upto_region 4 with fail
        have HSd := Lib.hid HS.out.drew
        have HST : ∀ (ix : Nat) (vs : Nat → Value) (vx : Value) (wx wy : World), factP (sv_r4_0_F q n2 c2 xe j B0 a2 L2) ix vs vx wx → Mod (fun _ => False) wx wy → factP (sv_r4_0_F q n2 c2 xe j B0 a2 L2) ix vs vx wy := by
          refine factP_stays ?_
          unfold sv_r4_0_F
          exact stableP_cons (StableP.of (stable_val _)) <| stableP_cons (StableP.of (EmpT.st)) <| stableP_cons (StableP.of (stable_val _)) <| stableP_cons (StableP.of (stable_val _)) <| stableP_cons (StableP.of (stable_val _)) <| stableP_cons (StableP.of (stable_val _)) <| stableP_cons (StableP.of (stable_val _)) <| stableP_cons (StableP.of (stable_val _)) <| stableP_cons (StableP.of (OwnT.st)) <| stableP_cons (StableP.of (stable_val _)) <| stableP_cons (StableP.of (LitT.st)) <| stableP_cons (StableP.of (OwnT.st)) <| stableP_cons (StableP.of (stable_val _)) <| stableP_cons (StableP.of (stable_val _)) <| stableP_cons (StableP.of (stable_val _)) <| stableP_cons (StableP.of (stable_val _)) <| stableP_cons (StableP.of (stable_val _)) <| stableP_cons (StableP.of (stable_val _)) <| stableP_cons (StableP.of (OwnT.st)) <| stableP_cons (StableP.of (stable_val _)) <| stableP_cons (StableP.of (stable_val _)) <| stableP_nil
        have HSO : ∀ px ∈ (sv_r4_0_F q n2 c2 xe j B0 a2 L2), px.1 = true → ∀ (vs : Nat → Value) (vx : Value) (wx wy : World), px.2 vs vx wx → px.2 vs vx wy := by
          unfold sv_r4_0_F
          exact solidP_cons (solid_val _) <| solidP_cons (fun h => by cases h) <| solidP_cons (solid_val _) <| solidP_cons (solid_val _) <| solidP_cons (solid_val _) <| solidP_cons (solid_val _) <| solidP_cons (solid_val _) <| solidP_cons (solid_val _) <| solidP_cons (fun h => by cases h) <| solidP_cons (solid_val _) <| solidP_cons (fun h => by cases h) <| solidP_cons (fun h => by cases h) <| solidP_cons (solid_val _) <| solidP_cons (solid_val _) <| solidP_cons (solid_val _) <| solidP_cons (solid_val _) <| solidP_cons (solid_val _) <| solidP_cons (solid_val _) <| solidP_cons (fun h => by cases h) <| solidP_cons (solid_val _) <| solidP_cons (solid_val _) <| solidP_nil
        have HLO : LocL (fun i => sv_r4_0_D.getD i []) 0 (sv_r4_0_F q n2 c2 xe j B0 a2 L2) := by
          unfold sv_r4_0_F
          exact loc_cons (loc_own _) <| loc_cons (loc_own _) <| loc_cons (loc_own _) <| loc_cons (loc_own _) <| loc_cons (loc_own _) <| loc_cons (loc_own _) <| loc_cons (loc_own _) <| loc_cons (loc_own _) <| loc_cons (loc_own _) <| loc_cons (loc_own _) <| loc_cons (loc_own _) <| loc_cons (loc_own _) <| loc_cons (loc_own _) <| loc_cons (loc_own _) <| loc_cons (loc_own _) <| loc_cons (loc_own _) <| loc_cons (loc_own _) <| loc_cons (loc_own _) <| loc_cons (loc_own _) <| loc_cons (loc_own _) <| loc_cons (loc_own _) <| loc_nil
        refine wp_region_pair (act := ?actsv_r4_0) (Mod (fun k => B0 ≤ k)) (factP (sv_r4_0_F q n2 c2 xe j B0 a2 L2)) (fun i => sv_r4_0_C.getD i 1000) (fun i => sv_r4_0_D.getD i []) 21 _ rfl rfl (by kernel_rfl) (by kernel_rfl) (by kernel_rfl) (by kernel_rfl) (by kernel_rfl) (fun _ => Mod.refl _ _)
          (fun _ _ _ h k => h.trans k (fun _ _ e => e) (fun _ _ e => e)) ?hactsv_r4_0 (loc_of HLO) ?_ ?_
        case hactsv_r4_0 => intro vs; simp only [putAll, Nat.zero_add, Nat.reduceAdd, Act.put, List.setIfInBounds_toArray, List.set_cons_succ, List.set_cons_zero]; exact rfl
        · refine opsOkP_cons ?_ ?_
          · intro K vs W hR hD hN hK
            clear hD
            clear hN
            try dsimp only at hK ⊢
            simp only [Act.put, List.setIfInBounds_toArray, List.set_cons_succ, List.set_cons_zero] at hK
            go_wp2
            exact hK _ _ rfl (fun _ _ h => h) (Mod.refl _ _)
          refine opsOkP_cons ?_ ?_
          · intro K vs W hR hD hN hK
            clear hD
            clear hN
            try dsimp only at hK ⊢
            simp only [Act.put, List.setIfInBounds_toArray, List.set_cons_succ, List.set_cons_zero] at hK
            have hz := (show B0 ≤ W.heap.size from (by have h1 := HB0.out; have h2 := hR.size; simp at h2; omega))
            go_wp2
            exact hK _ _ ⟨_, rfl, Own.rebase (own_empty W 100 1 W.heap.size rfl) (low_lit hz)⟩ (fun j _ h => HST j vs _ _ _ h (Mod.alloc _ _ _)) (Mod.alloc _ _ _)
          refine opsOkP_cons ?_ ?_
          · intro K vs W hR hD hN hK
            clear hD
            clear hN
            try dsimp only at hK ⊢
            simp only [Act.put, List.setIfInBounds_toArray, List.set_cons_succ, List.set_cons_zero] at hK
            go_wp2
            exact hK _ _ rfl (fun _ _ h => h) (Mod.refl _ _)
          refine opsOkP_cons ?_ ?_
          · intro K vs W hR hD hN hK
            have dq2 : vs 2 = .pointer (some ⟨q, 0, none⟩) := hD 2 (by decide)
            clear hD
            clear hN
            try dsimp only at hK ⊢
            simp only [Act.put, List.setIfInBounds_toArray, List.set_cons_succ, List.set_cons_zero] at hK
            generalize vs 2 = vq2 at hK dq2 ⊢
            subst vq2
            go_wp2
            exact hK _ _ rfl (fun _ _ h => h) (Mod.refl _ _)
          refine opsOkP_cons ?_ ?_
          · intro K vs W hR hD hN hK
            have dq3 : vs 3 = .pointer (some ⟨q, 0, none⟩) := hD 3 (by decide)
            clear hD
            clear hN
            try dsimp only at hK ⊢
            simp only [Act.put, List.setIfInBounds_toArray, List.set_cons_succ, List.set_cons_zero] at hK
            generalize vs 3 = vq3 at hK dq3 ⊢
            subst vq3
            go_wp2
            exact hK _ _ rfl (fun _ _ h => h) (Mod.refl _ _)
          refine opsOkP_cons ?_ ?_
          · intro K vs W hR hD hN hK
            have dq4 : vs 4 = .pointer (some ⟨q, 11, none⟩) := hD 4 (by decide)
            clear hD
            clear hN
            try dsimp only at hK ⊢
            simp only [Act.put, List.setIfInBounds_toArray, List.set_cons_succ, List.set_cons_zero] at hK
            generalize vs 4 = vq4 at hK dq4 ⊢
            subst vq4
            have hc := ((HSd.out.at (HOLD.out W hR)).2.2.2.1).cellR
            go_wp2
            exact hK _ _ rfl (fun _ _ h => h) (Mod.refl _ _)
          refine opsOkP_cons ?_ ?_
          · intro K vs W hR hD hN hK
            clear hD
            clear hN
            try dsimp only at hK ⊢
            simp only [Act.put, List.setIfInBounds_toArray, List.set_cons_succ, List.set_cons_zero] at hK
            go_wp2
            exact hK _ _ rfl (fun _ _ h => h) (Mod.refl _ _)
          refine opsOkP_cons ?_ ?_
          · intro K vs W hR hD hN hK
            have dq5 : vs 5 = .slice a2 n2 c2 := hD 5 (by decide)
            have dq6 : vs 6 = .int .i64 (j : Int) := hD 6 (by decide)
            clear hD
            clear hN
            try dsimp only at hK ⊢
            simp only [Act.put, List.setIfInBounds_toArray, List.set_cons_succ, List.set_cons_zero] at hK
            generalize vs 5 = vq5 at hK dq5 ⊢
            subst vq5
            generalize vs 6 = vq6 at hK dq6 ⊢
            subst vq6
            have htk := HTK.out
            go_wp2_with fail
            exact hK _ _ rfl (fun _ _ h => h) (Mod.refl _ _)
          refine opsOkP_cons ?_ ?_
          · intro K vs W hR hD hN hK
            have dq1 : (EmpT 100 1 B0) (vs 1) W := hD 1 (by decide)
            have dq7 : vs 7 = .slice a2 j c2 := hD 7 (by decide)
            clear hD
            clear hN
            try dsimp only at hK ⊢
            simp only [Act.put, List.setIfInBounds_toArray, List.set_cons_succ, List.set_cons_zero] at hK
            generalize vs 1 = vq1 at hK dq1 ⊢
            generalize vs 7 = vq7 at hK dq7 ⊢
            subst vq7
            have hz := (show B0 ≤ W.heap.size from (by have h1 := HB0.out; have h2 := hR.size; simp at h2; omega))
            have hrd := (HSd.out.at (HOLD.out W hR)).2.1
            obtain ⟨ae, rfl, ho⟩ := dq1
            go_wp2_with (at_builtin; refine wpList_append_any rfl (.tmp 38) (.tmp 44) 103 rfl 100 iE (.pointer none) 1 8 Try.underlying103 hiE hzE hsE hbE rfl (by decide) _ (0) ([]) rfl (Own.base ho (Nat.zero_le _)) _ (j) ((L2.take j).map seV) rfl hrd (seV_one _) (by unfold maxLen; omega) (by omega) ?_; intro v' w' hap)
            obtain ⟨a4, c4, rfl⟩ := hap.form
            have ho4 := hap.own
            have lo4 := hap.low hz (fun k hk => (ho.lt k hk).1)
            have hm4 := hap.still ae 0 0 rfl (by omega)
            simp only [Nat.zero_add, List.nil_append] at ho4 lo4 ⊢
            exact hK _ _ ⟨a4, c4, rfl, Own.rebase ho4 lo4⟩ (fun j _ h => HST j vs _ _ _ h hm4) (hm4.mono (fun _ _ e => e.elim))
          refine opsOkP_cons ?_ ?_
          · intro K vs W hR hD hN hK
            clear hD
            clear hN
            try dsimp only at hK ⊢
            simp only [Act.put, List.setIfInBounds_toArray, List.set_cons_succ, List.set_cons_zero] at hK
            go_wp2
            exact hK _ _ rfl (fun _ _ h => h) (Mod.refl _ _)
          refine opsOkP_cons ?_ ?_
          · intro K vs W hR hD hN hK
            have dq9 : vs 9 = .pointer (some ⟨xe, 0, none⟩) := hD 9 (by decide)
            clear hD
            clear hN
            try dsimp only at hK ⊢
            simp only [Act.put, List.setIfInBounds_toArray, List.set_cons_succ, List.set_cons_zero] at hK
            generalize vs 9 = vq9 at hK dq9 ⊢
            subst vq9
            go_wp2
            exact hK _ _ ⟨_, rfl, by exact Rd.litN _ 1 _ _ _ 1 rfl rfl (by decide)⟩ (fun j _ h => HST j vs _ _ _ h (Mod.alloc _ _ _)) (Mod.alloc _ _ _)
          refine opsOkP_cons ?_ ?_
          · intro K vs W hR hD hN hK
            have dq8 : (OwnT 100 1 B0 (j) ((L2.take j).map seV)) (vs 8) W := hD 8 (by decide)
            have dq10 : (LitT 1 [.pointer (some ⟨xe, 0, none⟩)]) (vs 10) W := hD 10 (by decide)
            clear hD
            clear hN
            try dsimp only at hK ⊢
            simp only [Act.put, List.setIfInBounds_toArray, List.set_cons_succ, List.set_cons_zero] at hK
            generalize vs 8 = vq8 at hK dq8 ⊢
            generalize vs 10 = vq10 at hK dq10 ⊢
            have hz := (show B0 ≤ W.heap.size from (by have h1 := HB0.out; have h2 := hR.size; simp at h2; omega))
            obtain ⟨ae, ce, rfl, ho⟩ := dq8
            obtain ⟨pl, rfl, hl⟩ := dq10
            go_wp2_with (at_builtin; refine wpList_append_any rfl (.tmp 45) (.tmp 47) 103 rfl 100 iE (.pointer none) 1 8 Try.underlying103 hiE hzE hsE hbE rfl (by decide) _ (j) ((L2.take j).map seV) rfl (Own.base ho (Nat.zero_le _)) _ (1) ([.pointer (some ⟨xe, 0, none⟩)]) rfl hl (by intro u hu; simp at hu; subst hu; rfl) (by unfold maxLen; omega) (by omega) ?_; intro v' w' hap)
            obtain ⟨a4, c4, rfl⟩ := hap.form
            have ho4 := hap.own
            have lo4 := hap.low hz (fun k hk => (ho.lt k hk).1)
            exact hK _ _ ⟨a4, c4, rfl, Own.rebase ho4 lo4⟩ (factP_solid HSO [] 11 (by kernel_rfl) (fun _ h => by cases h)) (hap.mod.mono (fun k _ e => (ho.lt k e).1))
          refine opsOkP_cons ?_ ?_
          · intro K vs W hR hD hN hK
            clear hD
            clear hN
            try dsimp only at hK ⊢
            simp only [Act.put, List.setIfInBounds_toArray, List.set_cons_succ, List.set_cons_zero] at hK
            go_wp2
            exact hK _ _ rfl (fun _ _ h => h) (Mod.refl _ _)
          refine opsOkP_cons ?_ ?_
          · intro K vs W hR hD hN hK
            have dq12 : vs 12 = .pointer (some ⟨q, 0, none⟩) := hD 12 (by decide)
            clear hD
            clear hN
            try dsimp only at hK ⊢
            simp only [Act.put, List.setIfInBounds_toArray, List.set_cons_succ, List.set_cons_zero] at hK
            generalize vs 12 = vq12 at hK dq12 ⊢
            subst vq12
            go_wp2
            exact hK _ _ rfl (fun _ _ h => h) (Mod.refl _ _)
          refine opsOkP_cons ?_ ?_
          · intro K vs W hR hD hN hK
            have dq13 : vs 13 = .pointer (some ⟨q, 0, none⟩) := hD 13 (by decide)
            clear hD
            clear hN
            try dsimp only at hK ⊢
            simp only [Act.put, List.setIfInBounds_toArray, List.set_cons_succ, List.set_cons_zero] at hK
            generalize vs 13 = vq13 at hK dq13 ⊢
            subst vq13
            go_wp2
            exact hK _ _ rfl (fun _ _ h => h) (Mod.refl _ _)
          refine opsOkP_cons ?_ ?_
          · intro K vs W hR hD hN hK
            have dq14 : vs 14 = .pointer (some ⟨q, 11, none⟩) := hD 14 (by decide)
            clear hD
            clear hN
            try dsimp only at hK ⊢
            simp only [Act.put, List.setIfInBounds_toArray, List.set_cons_succ, List.set_cons_zero] at hK
            generalize vs 14 = vq14 at hK dq14 ⊢
            subst vq14
            have hc := ((HSd.out.at (HOLD.out W hR)).2.2.2.1).cellR
            go_wp2
            exact hK _ _ rfl (fun _ _ h => h) (Mod.refl _ _)
          refine opsOkP_cons ?_ ?_
          · intro K vs W hR hD hN hK
            clear hD
            clear hN
            try dsimp only at hK ⊢
            simp only [Act.put, List.setIfInBounds_toArray, List.set_cons_succ, List.set_cons_zero] at hK
            go_wp2
            exact hK _ _ rfl (fun _ _ h => h) (Mod.refl _ _)
          refine opsOkP_cons ?_ ?_
          · intro K vs W hR hD hN hK
            have dq15 : vs 15 = .slice a2 n2 c2 := hD 15 (by decide)
            have dq16 : vs 16 = .int .i64 (j : Int) := hD 16 (by decide)
            clear hD
            clear hN
            try dsimp only at hK ⊢
            simp only [Act.put, List.setIfInBounds_toArray, List.set_cons_succ, List.set_cons_zero] at hK
            generalize vs 15 = vq15 at hK dq15 ⊢
            subst vq15
            generalize vs 16 = vq16 at hK dq16 ⊢
            subst vq16
            have hdk := HDK.out
            go_wp2_with fail
            exact hK _ _ rfl (fun _ _ h => h) (Mod.refl _ _)
          refine opsOkP_cons ?_ ?_
          · intro K vs W hR hD hN hK
            have dq11 : (OwnT 100 1 B0 (j + 1) ((L2.take j).map seV ++ [.pointer (some ⟨xe, 0, none⟩)])) (vs 11) W := hD 11 (by decide)
            have dq17 : vs 17 = .slice (dropA a2 c2 j 1) (n2 - j) (c2 - j) := hD 17 (by decide)
            clear hD
            clear hN
            try dsimp only at hK ⊢
            simp only [Act.put, List.setIfInBounds_toArray, List.set_cons_succ, List.set_cons_zero] at hK
            generalize vs 11 = vq11 at hK dq11 ⊢
            generalize vs 17 = vq17 at hK dq17 ⊢
            subst vq17
            have hz := (show B0 ≤ W.heap.size from (by have h1 := HB0.out; have h2 := hR.size; simp at h2; omega))
            have hrd := (HSd.out.at (HOLD.out W hR)).1
            obtain ⟨ae, ce, rfl, ho⟩ := dq11
            go_wp2_with (at_builtin; refine wpList_append_any rfl (.tmp 48) (.tmp 54) 103 rfl 100 iE (.pointer none) 1 8 Try.underlying103 hiE hzE hsE hbE rfl (by decide) _ (j + 1) ((L2.take j).map seV ++ [.pointer (some ⟨xe, 0, none⟩)]) rfl (Own.base ho (Nat.zero_le _)) _ ((n2 - j)) ((L2.drop j).map seV) rfl hrd (seV_one _) (by unfold maxLen; omega) (by omega) ?_; intro v' w' hap)
            obtain ⟨a4, c4, rfl⟩ := hap.form
            have ho4 := hap.own
            have lo4 := hap.low hz (fun k hk => (ho.lt k hk).1)
            exact hK _ _ ⟨a4, c4, rfl, Own.rebase ho4 lo4⟩ (factP_solid HSO [] 18 (by kernel_rfl) (fun _ h => by cases h)) (hap.mod.mono (fun k _ e => (ho.lt k e).1))
          refine opsOkP_cons ?_ ?_
          · intro K vs W hR hD hN hK
            have dq0 : vs 0 = .pointer (some ⟨q, 0, none⟩) := hD 0 (by decide)
            clear hD
            clear hN
            try dsimp only at hK ⊢
            simp only [Act.put, List.setIfInBounds_toArray, List.set_cons_succ, List.set_cons_zero] at hK
            generalize vs 0 = vq0 at hK dq0 ⊢
            subst vq0
            go_wp2
            exact hK _ _ rfl (fun _ _ h => h) (Mod.refl _ _)
          refine opsOkP_cons ?_ ?_
          · intro K vs W hR hD hN hK
            have dq19 : vs 19 = .pointer (some ⟨q, 0, none⟩) := hD 19 (by decide)
            clear hD
            clear hN
            try dsimp only at hK ⊢
            simp only [Act.put, List.setIfInBounds_toArray, List.set_cons_succ, List.set_cons_zero] at hK
            generalize vs 19 = vq19 at hK dq19 ⊢
            subst vq19
            go_wp2
            exact hK _ _ rfl (fun _ _ h => h) (Mod.refl _ _)
          exact opsOkP_nil
        · intro vs wq1 hR hF
          have dq18 : (OwnT 100 1 B0 (j + 1 + (n2 - j)) ((L2.take j).map seV ++ [.pointer (some ⟨xe, 0, none⟩)] ++ (L2.drop j).map seV)) (vs 18) wq1 := hF 18 (by decide) (by decide)
          have dq20 : vs 20 = .pointer (some ⟨q, 11, none⟩) := hF 20 (by decide) (by decide)
          clear hF
          try dsimp only
          generalize vs 18 = vq18 at dq18 ⊢
          generalize vs 20 = vq20 at dq20 ⊢
          subst vq20
          have hmw : Mod (fun _ => False) wQ wq1 := (Mod.drew _ _).of2 (HOLD.out _ hR)
          replace HS := Lib.hid (HS.out.step hmw)
          clear hmw HSd
          obtain ⟨av, cv, rfl, ho⟩ := dq18
          have hsv := (HS.out.now).2.2.2.1
          have hse := (HS.out.now).2.2.1
          have hmm := (HS.out.now).2.2.2.2
          obtain ⟨n3, hn3⟩ : ∃ y, j + 1 + (n2 - j) = y := ⟨_, rfl⟩
          have hfin : ((L2.take j).map seV ++ [.pointer (some ⟨xe, 0, none⟩)]) ++ (L2.drop j).map seV = (L2.take j ++ x :: L2.drop j).map seV := by rw [List.map_append, List.map_cons, List.append_assoc]; unfold seV; rw [HXE.out]; rfl
          rw [hfin, hn3] at ho
          rw [hn3]
          have hqB : q < B0 := by have h1 := HB0.out; have h2 := HMQ.out.size; have h3 := HS1.out.lt; omega
          have hL3 : ∀ y ∈ L2.take j ++ x :: L2.drop j, SEin wq1 q y := fun y hy => by
            rw [List.mem_append, List.mem_cons] at hy
            rcases hy with hy | rfl | hy
            · exact hsv.ents y (List.mem_of_mem_take hy)
            · exact hse
            · exact hsv.ents y (List.mem_of_mem_drop hy)
          obtain ⟨hr, hrm⟩ := hsv.reset (by rw [List.length_append, List.length_cons, List.length_take, List.length_drop]; omega) ho hqB hL3
          have c11 := hsv.cellR
          have f11 := hsv.free 11
          have lq := hsv.lt
          have hser := hse.keep hrm (fun _ _ e => e)
          have HRM := Lib.hid hrm
          have HRV := Lib.hid hr
          have HMM := Lib.hid hmm
          clear ho hsv hse hmm hfin hL3 hrm
          obtain ⟨wS, hwS⟩ : ∃ y, wq1.setCell ⟨q, 11, none⟩ (.slice av n3 cv) = y := ⟨_, rfl⟩
          rw [hwS] at hser HRM HRV
          have s0 := hser.e.cell 0 rfl
          have s1 := hser.e.cell 1 rfl
          have s2 := hser.c.cell 0 rfl
          rw [HXE.out] at s0 s1
          rw [HIP.out] at s0
          obtain ⟨xc, hxc⟩ : ∃ y, x.cb = y := ⟨_, rfl⟩
          obtain ⟨xn, hxn⟩ : ∃ y, x.conn = y := ⟨_, rfl⟩
          rw [hxc] at s1 s2
          rw [hxn] at s2
          have HXN := Lib.hid hxn
          have hsl : xe < wS.heap.size := by rw [← HXE.out]; exact hser.e.lt
          have hcl : xc < wS.heap.size := by rw [← hxc]; exact hser.c.lt
          clear hser hxc hxn hr
          go_wp2_with fail
          have cg := HRV.out.cellG hi
          have fg := HRV.out.free (12 + ip)
          have lq2 := HRV.out.lt
          have hixG := fun wx => run_indexA16 (P := Try.prog) wx 104 3 iI Try.underlying104 hiI hsI q 12 ip hi
          clear c11 f11 lq hwS
          go_region
          go_wp2_with fail
          go_end0
          obtain ⟨hfv, hfm⟩ := HRV.out.great hi xn
          obtain ⟨wT, hwT⟩ : ∃ y, wS.setCell ⟨q, 12 + ip, none⟩ (.int .i64 xn) = y := ⟨_, rfl⟩
          rw [hwT] at hfv hfm
          (try rw [hwT])
          have hall : Mod (fun k => k = q) w wT := ((HM1.out.trans HMQ.out (H := fun k => k = q) (fun _ _ e => e) (fun _ _ e => e.elim)).trans HMM.out (H := fun k => k = q) (fun _ _ e => e) (fun _ _ e => e.elim)).trans (HRM.out.trans hfm (H := fun k => k = q) (fun _ _ e => e) (fun _ _ e => e)) (fun _ _ e => e) (fun _ _ e => e)
          have hput := HL.out.put hi xn yv (A := L2.take j) (Q := L2.drop j) (by rw [HL2.out, List.take_append_drop]) x HIP.out HXN.out (fun z hz => HALL.out z hz) (fun z hz => HGT.out z hz)
          exact ⟨rfl, av, n3, cv, L2.take j ++ x :: L2.drop j, by rw [HIP.out, HXN.out]; exact hfv.later (Mod.drew _ _), by rw [HIP.out, HXN.out]; exact hput, hall.trans (Mod.drew (fun k => k = q) wT) (fun _ _ e => e) (fun _ _ e => e)⟩
      · skip
        have hjn : j < n2 := by omega
        have z0 : decide ((j : Int) < (n2 : Int)) = true := by simp; omega
        have z1 : decide (j < n2) = true := by simpa using hjn
        obtain ⟨eb, eo, hpl, e0, e1, _, _⟩ := HSO.out.at_ j hjl
        have hix := fun wx => run_indexS (P := Try.prog) wx 103 100 iE 1 Try.underlying103 hiE hsE a2 n2 c2 j hjn (HSO.out.rd.some_ (by omega))
        rw [hpl] at hix
        obtain ⟨y, hy⟩ : ∃ y, L2[j] = y := ⟨_, rfl⟩
        rw [hy] at e0 e1
        obtain ⟨ye, hye⟩ : ∃ z, y.eb = z := ⟨_, rfl⟩
        obtain ⟨yp, hyp⟩ : ∃ z, y.peer = z := ⟨_, rfl⟩
        rw [hye] at e0 e1
        rw [hyp] at e1
        rw [hy, hyp] at hge
        have z2 : decide ((yp : Int) < (ip : Int)) = false := by simp; omega
        have z3 : decide (yp < ip) = false := by simp; omega
        clear hy hye hyp hpl hge
        go_wp2_with fail
        go_quiet (fail)
        clear e0 e1 hix
        obtain ⟨wQ, hwQ⟩ : ∃ y, World.drewN wo nq = y := ⟨_, rfl⟩
        have hmq : Mod (fun _ => False) wo wQ := by rw [← hwQ]; exact Mod.drewN _ _ _
        have HMQ := Lib.hid (HMR.out.of2 hmq)
        have hsq := HSO.out.later hmq
        have hxq := HXO.out.keep hmq (fun _ _ e => e.elim)
        have hrt2 := hsq.rd.take (n := j) hj
        have hrd2 := hsq.rd.drop (n := j) hj
        rw [Nat.mul_one, ← List.map_take] at hrt2
        rw [Nat.mul_one, ← List.map_drop] at hrd2
        rw [hwQ]
        clear hwQ hmq cr hxe0
        have HS : Hid (Ev (Mod (fun _ => False) wQ) wQ) := Lib.hid (Ev.mod wQ)
        replace HS := Lib.hid ((Ev.sv hsq).and HS.out)
        replace HS := Lib.hid ((Ev.se hxq).and HS.out)
        replace HS := Lib.hid ((Ev.rd hrt2).and HS.out)
        replace HS := Lib.hid ((Ev.rd hrd2).and HS.out)
        clear hsq hxq hrt2 hrd2
        go_wp2_with fail
        obtain ⟨B0, hB0⟩ : ∃ n, wQ.heap.size = n := ⟨_, rfl⟩
        have HB0 := Lib.hid hB0
        clear hB0
        have HOLD : Hid (∀ W, Mod (fun k => B0 ≤ k) (World.drew wQ) W → Mod (fun _ => False) (World.drew wQ) W) := Lib.hid fun W h => h.mono (fun i hi e => by have := HB0.out; simp at hi; omega)
        go_upto_region 4 with fail
        have HSd := Lib.hid HS.out.drew
        have HST : ∀ (ix : Nat) (vs : Nat → Value) (vx : Value) (wx wy : World), factP (sv_r4_1_F q n2 c2 xe j B0 a2 L2) ix vs vx wx → Mod (fun _ => False) wx wy → factP (sv_r4_1_F q n2 c2 xe j B0 a2 L2) ix vs vx wy := by
          refine factP_stays ?_
          unfold sv_r4_1_F
          exact stableP_cons (StableP.of (stable_val _)) <| stableP_cons (StableP.of (EmpT.st)) <| stableP_cons (StableP.of (stable_val _)) <| stableP_cons (StableP.of (stable_val _)) <| stableP_cons (StableP.of (stable_val _)) <| stableP_cons (StableP.of (stable_val _)) <| stableP_cons (StableP.of (stable_val _)) <| stableP_cons (StableP.of (stable_val _)) <| stableP_cons (StableP.of (OwnT.st)) <| stableP_cons (StableP.of (stable_val _)) <| stableP_cons (StableP.of (LitT.st)) <| stableP_cons (StableP.of (OwnT.st)) <| stableP_cons (StableP.of (stable_val _)) <| stableP_cons (StableP.of (stable_val _)) <| stableP_cons (StableP.of (stable_val _)) <| stableP_cons (StableP.of (stable_val _)) <| stableP_cons (StableP.of (stable_val _)) <| stableP_cons (StableP.of (stable_val _)) <| stableP_cons (StableP.of (OwnT.st)) <| stableP_cons (StableP.of (stable_val _)) <| stableP_cons (StableP.of (stable_val _)) <| stableP_nil
        have HSO : ∀ px ∈ (sv_r4_1_F q n2 c2 xe j B0 a2 L2), px.1 = true → ∀ (vs : Nat → Value) (vx : Value) (wx wy : World), px.2 vs vx wx → px.2 vs vx wy := by
          unfold sv_r4_1_F
          exact solidP_cons (solid_val _) <| solidP_cons (fun h => by cases h) <| solidP_cons (solid_val _) <| solidP_cons (solid_val _) <| solidP_cons (solid_val _) <| solidP_cons (solid_val _) <| solidP_cons (solid_val _) <| solidP_cons (solid_val _) <| solidP_cons (fun h => by cases h) <| solidP_cons (solid_val _) <| solidP_cons (fun h => by cases h) <| solidP_cons (fun h => by cases h) <| solidP_cons (solid_val _) <| solidP_cons (solid_val _) <| solidP_cons (solid_val _) <| solidP_cons (solid_val _) <| solidP_cons (solid_val _) <| solidP_cons (solid_val _) <| solidP_cons (fun h => by cases h) <| solidP_cons (solid_val _) <| solidP_cons (solid_val _) <| solidP_nil
        have HLO : LocL (fun i => sv_r4_1_D.getD i []) 0 (sv_r4_1_F q n2 c2 xe j B0 a2 L2) := by
          unfold sv_r4_1_F
          exact loc_cons (loc_own _) <| loc_cons (loc_own _) <| loc_cons (loc_own _) <| loc_cons (loc_own _) <| loc_cons (loc_own _) <| loc_cons (loc_own _) <| loc_cons (loc_own _) <| loc_cons (loc_own _) <| loc_cons (loc_own _) <| loc_cons (loc_own _) <| loc_cons (loc_own _) <| loc_cons (loc_own _) <| loc_cons (loc_own _) <| loc_cons (loc_own _) <| loc_cons (loc_own _) <| loc_cons (loc_own _) <| loc_cons (loc_own _) <| loc_cons (loc_own _) <| loc_cons (loc_own _) <| loc_cons (loc_own _) <| loc_cons (loc_own _) <| loc_nil
        refine wp_region_pair (act := ?actsv_r4_1) (Mod (fun k => B0 ≤ k)) (factP (sv_r4_1_F q n2 c2 xe j B0 a2 L2)) (fun i => sv_r4_1_C.getD i 1000) (fun i => sv_r4_1_D.getD i []) 21 _ rfl rfl (by kernel_rfl) (by kernel_rfl) (by kernel_rfl) (by kernel_rfl) (by kernel_rfl) (fun _ => Mod.refl _ _)
          (fun _ _ _ h k => h.trans k (fun _ _ e => e) (fun _ _ e => e)) ?hactsv_r4_1 (loc_of HLO) ?_ ?_
        case hactsv_r4_1 => intro vs; simp only [putAll, Nat.zero_add, Nat.reduceAdd, Act.put, List.setIfInBounds_toArray, List.set_cons_succ, List.set_cons_zero]; exact rfl
        · refine opsOkP_cons ?_ ?_
          · intro K vs W hR hD hN hK
            clear hD
            clear hN
            try dsimp only at hK ⊢
            simp only [Act.put, List.setIfInBounds_toArray, List.set_cons_succ, List.set_cons_zero] at hK
            go_wp2
            exact hK _ _ rfl (fun _ _ h => h) (Mod.refl _ _)
          refine opsOkP_cons ?_ ?_
          · intro K vs W hR hD hN hK
            clear hD
            clear hN
            try dsimp only at hK ⊢
            simp only [Act.put, List.setIfInBounds_toArray, List.set_cons_succ, List.set_cons_zero] at hK
            have hz := (show B0 ≤ W.heap.size from (by have h1 := HB0.out; have h2 := hR.size; simp at h2; omega))
            go_wp2
            exact hK _ _ ⟨_, rfl, Own.rebase (own_empty W 100 1 W.heap.size rfl) (low_lit hz)⟩ (fun j _ h => HST j vs _ _ _ h (Mod.alloc _ _ _)) (Mod.alloc _ _ _)
          refine opsOkP_cons ?_ ?_
          · intro K vs W hR hD hN hK
            clear hD
            clear hN
            try dsimp only at hK ⊢
            simp only [Act.put, List.setIfInBounds_toArray, List.set_cons_succ, List.set_cons_zero] at hK
            go_wp2
            exact hK _ _ rfl (fun _ _ h => h) (Mod.refl _ _)
          refine opsOkP_cons ?_ ?_
          · intro K vs W hR hD hN hK
            have dq2 : vs 2 = .pointer (some ⟨q, 0, none⟩) := hD 2 (by decide)
            clear hD
            clear hN
            try dsimp only at hK ⊢
            simp only [Act.put, List.setIfInBounds_toArray, List.set_cons_succ, List.set_cons_zero] at hK
            generalize vs 2 = vq2 at hK dq2 ⊢
            subst vq2
            go_wp2
            exact hK _ _ rfl (fun _ _ h => h) (Mod.refl _ _)
          refine opsOkP_cons ?_ ?_
          · intro K vs W hR hD hN hK
            have dq3 : vs 3 = .pointer (some ⟨q, 0, none⟩) := hD 3 (by decide)
            clear hD
            clear hN
            try dsimp only at hK ⊢
            simp only [Act.put, List.setIfInBounds_toArray, List.set_cons_succ, List.set_cons_zero] at hK
            generalize vs 3 = vq3 at hK dq3 ⊢
            subst vq3
            go_wp2
            exact hK _ _ rfl (fun _ _ h => h) (Mod.refl _ _)
          refine opsOkP_cons ?_ ?_
          · intro K vs W hR hD hN hK
            have dq4 : vs 4 = .pointer (some ⟨q, 11, none⟩) := hD 4 (by decide)
            clear hD
            clear hN
            try dsimp only at hK ⊢
            simp only [Act.put, List.setIfInBounds_toArray, List.set_cons_succ, List.set_cons_zero] at hK
            generalize vs 4 = vq4 at hK dq4 ⊢
            subst vq4
            have hc := ((HSd.out.at (HOLD.out W hR)).2.2.2.1).cellR
            go_wp2
            exact hK _ _ rfl (fun _ _ h => h) (Mod.refl _ _)
          refine opsOkP_cons ?_ ?_
          · intro K vs W hR hD hN hK
            clear hD
            clear hN
            try dsimp only at hK ⊢
            simp only [Act.put, List.setIfInBounds_toArray, List.set_cons_succ, List.set_cons_zero] at hK
            go_wp2
            exact hK _ _ rfl (fun _ _ h => h) (Mod.refl _ _)
          refine opsOkP_cons ?_ ?_
          · intro K vs W hR hD hN hK
            have dq5 : vs 5 = .slice a2 n2 c2 := hD 5 (by decide)
            have dq6 : vs 6 = .int .i64 (j : Int) := hD 6 (by decide)
            clear hD
            clear hN
            try dsimp only at hK ⊢
            simp only [Act.put, List.setIfInBounds_toArray, List.set_cons_succ, List.set_cons_zero] at hK
            generalize vs 5 = vq5 at hK dq5 ⊢
            subst vq5
            generalize vs 6 = vq6 at hK dq6 ⊢
            subst vq6
            have htk := HTK.out
            go_wp2_with fail
            exact hK _ _ rfl (fun _ _ h => h) (Mod.refl _ _)
          refine opsOkP_cons ?_ ?_
          · intro K vs W hR hD hN hK
            have dq1 : (EmpT 100 1 B0) (vs 1) W := hD 1 (by decide)
            have dq7 : vs 7 = .slice a2 j c2 := hD 7 (by decide)
            clear hD
            clear hN
            try dsimp only at hK ⊢
            simp only [Act.put, List.setIfInBounds_toArray, List.set_cons_succ, List.set_cons_zero] at hK
            generalize vs 1 = vq1 at hK dq1 ⊢
            generalize vs 7 = vq7 at hK dq7 ⊢
            subst vq7
            have hz := (show B0 ≤ W.heap.size from (by have h1 := HB0.out; have h2 := hR.size; simp at h2; omega))
            have hrd := (HSd.out.at (HOLD.out W hR)).2.1
            obtain ⟨ae, rfl, ho⟩ := dq1
            go_wp2_with (at_builtin; refine wpList_append_any rfl (.tmp 38) (.tmp 44) 103 rfl 100 iE (.pointer none) 1 8 Try.underlying103 hiE hzE hsE hbE rfl (by decide) _ (0) ([]) rfl (Own.base ho (Nat.zero_le _)) _ (j) ((L2.take j).map seV) rfl hrd (seV_one _) (by unfold maxLen; omega) (by omega) ?_; intro v' w' hap)
            obtain ⟨a4, c4, rfl⟩ := hap.form
            have ho4 := hap.own
            have lo4 := hap.low hz (fun k hk => (ho.lt k hk).1)
            have hm4 := hap.still ae 0 0 rfl (by omega)
            simp only [Nat.zero_add, List.nil_append] at ho4 lo4 ⊢
            exact hK _ _ ⟨a4, c4, rfl, Own.rebase ho4 lo4⟩ (fun j _ h => HST j vs _ _ _ h hm4) (hm4.mono (fun _ _ e => e.elim))
          refine opsOkP_cons ?_ ?_
          · intro K vs W hR hD hN hK
            clear hD
            clear hN
            try dsimp only at hK ⊢
            simp only [Act.put, List.setIfInBounds_toArray, List.set_cons_succ, List.set_cons_zero] at hK
            go_wp2
            exact hK _ _ rfl (fun _ _ h => h) (Mod.refl _ _)
          refine opsOkP_cons ?_ ?_
          · intro K vs W hR hD hN hK
            have dq9 : vs 9 = .pointer (some ⟨xe, 0, none⟩) := hD 9 (by decide)
            clear hD
            clear hN
            try dsimp only at hK ⊢
            simp only [Act.put, List.setIfInBounds_toArray, List.set_cons_succ, List.set_cons_zero] at hK
            generalize vs 9 = vq9 at hK dq9 ⊢
            subst vq9
            go_wp2
            exact hK _ _ ⟨_, rfl, by exact Rd.litN _ 1 _ _ _ 1 rfl rfl (by decide)⟩ (fun j _ h => HST j vs _ _ _ h (Mod.alloc _ _ _)) (Mod.alloc _ _ _)
          refine opsOkP_cons ?_ ?_
          · intro K vs W hR hD hN hK
            have dq8 : (OwnT 100 1 B0 (j) ((L2.take j).map seV)) (vs 8) W := hD 8 (by decide)
            have dq10 : (LitT 1 [.pointer (some ⟨xe, 0, none⟩)]) (vs 10) W := hD 10 (by decide)
            clear hD
            clear hN
            try dsimp only at hK ⊢
            simp only [Act.put, List.setIfInBounds_toArray, List.set_cons_succ, List.set_cons_zero] at hK
            generalize vs 8 = vq8 at hK dq8 ⊢
            generalize vs 10 = vq10 at hK dq10 ⊢
            have hz := (show B0 ≤ W.heap.size from (by have h1 := HB0.out; have h2 := hR.size; simp at h2; omega))
            obtain ⟨ae, ce, rfl, ho⟩ := dq8
            obtain ⟨pl, rfl, hl⟩ := dq10
            go_wp2_with (at_builtin; refine wpList_append_any rfl (.tmp 45) (.tmp 47) 103 rfl 100 iE (.pointer none) 1 8 Try.underlying103 hiE hzE hsE hbE rfl (by decide) _ (j) ((L2.take j).map seV) rfl (Own.base ho (Nat.zero_le _)) _ (1) ([.pointer (some ⟨xe, 0, none⟩)]) rfl hl (by intro u hu; simp at hu; subst hu; rfl) (by unfold maxLen; omega) (by omega) ?_; intro v' w' hap)
            obtain ⟨a4, c4, rfl⟩ := hap.form
            have ho4 := hap.own
            have lo4 := hap.low hz (fun k hk => (ho.lt k hk).1)
            exact hK _ _ ⟨a4, c4, rfl, Own.rebase ho4 lo4⟩ (factP_solid HSO [] 11 (by kernel_rfl) (fun _ h => by cases h)) (hap.mod.mono (fun k _ e => (ho.lt k e).1))
          refine opsOkP_cons ?_ ?_
          · intro K vs W hR hD hN hK
            clear hD
            clear hN
            try dsimp only at hK ⊢
            simp only [Act.put, List.setIfInBounds_toArray, List.set_cons_succ, List.set_cons_zero] at hK
            go_wp2
            exact hK _ _ rfl (fun _ _ h => h) (Mod.refl _ _)
          refine opsOkP_cons ?_ ?_
          · intro K vs W hR hD hN hK
            have dq12 : vs 12 = .pointer (some ⟨q, 0, none⟩) := hD 12 (by decide)
            clear hD
            clear hN
            try dsimp only at hK ⊢
            simp only [Act.put, List.setIfInBounds_toArray, List.set_cons_succ, List.set_cons_zero] at hK
            generalize vs 12 = vq12 at hK dq12 ⊢
            subst vq12
            go_wp2
            exact hK _ _ rfl (fun _ _ h => h) (Mod.refl _ _)
          refine opsOkP_cons ?_ ?_
          · intro K vs W hR hD hN hK
            have dq13 : vs 13 = .pointer (some ⟨q, 0, none⟩) := hD 13 (by decide)
            clear hD
            clear hN
            try dsimp only at hK ⊢
            simp only [Act.put, List.setIfInBounds_toArray, List.set_cons_succ, List.set_cons_zero] at hK
            generalize vs 13 = vq13 at hK dq13 ⊢
            subst vq13
            go_wp2
            exact hK _ _ rfl (fun _ _ h => h) (Mod.refl _ _)
          refine opsOkP_cons ?_ ?_
          · intro K vs W hR hD hN hK
            have dq14 : vs 14 = .pointer (some ⟨q, 11, none⟩) := hD 14 (by decide)
            clear hD
            clear hN
            try dsimp only at hK ⊢
            simp only [Act.put, List.setIfInBounds_toArray, List.set_cons_succ, List.set_cons_zero] at hK
            generalize vs 14 = vq14 at hK dq14 ⊢
            subst vq14
            have hc := ((HSd.out.at (HOLD.out W hR)).2.2.2.1).cellR
            go_wp2
            exact hK _ _ rfl (fun _ _ h => h) (Mod.refl _ _)
          refine opsOkP_cons ?_ ?_
          · intro K vs W hR hD hN hK
            clear hD
            clear hN
            try dsimp only at hK ⊢
            simp only [Act.put, List.setIfInBounds_toArray, List.set_cons_succ, List.set_cons_zero] at hK
            go_wp2
            exact hK _ _ rfl (fun _ _ h => h) (Mod.refl _ _)
          refine opsOkP_cons ?_ ?_
          · intro K vs W hR hD hN hK
            have dq15 : vs 15 = .slice a2 n2 c2 := hD 15 (by decide)
            have dq16 : vs 16 = .int .i64 (j : Int) := hD 16 (by decide)
            clear hD
            clear hN
            try dsimp only at hK ⊢
            simp only [Act.put, List.setIfInBounds_toArray, List.set_cons_succ, List.set_cons_zero] at hK
            generalize vs 15 = vq15 at hK dq15 ⊢
            subst vq15
            generalize vs 16 = vq16 at hK dq16 ⊢
            subst vq16
            have hdk := HDK.out
            go_wp2_with fail
            exact hK _ _ rfl (fun _ _ h => h) (Mod.refl _ _)
          refine opsOkP_cons ?_ ?_
          · intro K vs W hR hD hN hK
            have dq11 : (OwnT 100 1 B0 (j + 1) ((L2.take j).map seV ++ [.pointer (some ⟨xe, 0, none⟩)])) (vs 11) W := hD 11 (by decide)
            have dq17 : vs 17 = .slice (dropA a2 c2 j 1) (n2 - j) (c2 - j) := hD 17 (by decide)
            clear hD
            clear hN
            try dsimp only at hK ⊢
            simp only [Act.put, List.setIfInBounds_toArray, List.set_cons_succ, List.set_cons_zero] at hK
            generalize vs 11 = vq11 at hK dq11 ⊢
            generalize vs 17 = vq17 at hK dq17 ⊢
            subst vq17
            have hz := (show B0 ≤ W.heap.size from (by have h1 := HB0.out; have h2 := hR.size; simp at h2; omega))
            have hrd := (HSd.out.at (HOLD.out W hR)).1
            obtain ⟨ae, ce, rfl, ho⟩ := dq11
            go_wp2_with (at_builtin; refine wpList_append_any rfl (.tmp 48) (.tmp 54) 103 rfl 100 iE (.pointer none) 1 8 Try.underlying103 hiE hzE hsE hbE rfl (by decide) _ (j + 1) ((L2.take j).map seV ++ [.pointer (some ⟨xe, 0, none⟩)]) rfl (Own.base ho (Nat.zero_le _)) _ ((n2 - j)) ((L2.drop j).map seV) rfl hrd (seV_one _) (by unfold maxLen; omega) (by omega) ?_; intro v' w' hap)
            obtain ⟨a4, c4, rfl⟩ := hap.form
            have ho4 := hap.own
            have lo4 := hap.low hz (fun k hk => (ho.lt k hk).1)
            exact hK _ _ ⟨a4, c4, rfl, Own.rebase ho4 lo4⟩ (factP_solid HSO [] 18 (by kernel_rfl) (fun _ h => by cases h)) (hap.mod.mono (fun k _ e => (ho.lt k e).1))
          refine opsOkP_cons ?_ ?_
          · intro K vs W hR hD hN hK
            have dq0 : vs 0 = .pointer (some ⟨q, 0, none⟩) := hD 0 (by decide)
            clear hD
            clear hN
            try dsimp only at hK ⊢
            simp only [Act.put, List.setIfInBounds_toArray, List.set_cons_succ, List.set_cons_zero] at hK
            generalize vs 0 = vq0 at hK dq0 ⊢
            subst vq0
            go_wp2
            exact hK _ _ rfl (fun _ _ h => h) (Mod.refl _ _)
          refine opsOkP_cons ?_ ?_
          · intro K vs W hR hD hN hK
            have dq19 : vs 19 = .pointer (some ⟨q, 0, none⟩) := hD 19 (by decide)
            clear hD
            clear hN
            try dsimp only at hK ⊢
            simp only [Act.put, List.setIfInBounds_toArray, List.set_cons_succ, List.set_cons_zero] at hK
            generalize vs 19 = vq19 at hK dq19 ⊢
            subst vq19
            go_wp2
            exact hK _ _ rfl (fun _ _ h => h) (Mod.refl _ _)
          exact opsOkP_nil
        · intro vs wq2 hR hF
          have dq18 : (OwnT 100 1 B0 (j + 1 + (n2 - j)) ((L2.take j).map seV ++ [.pointer (some ⟨xe, 0, none⟩)] ++ (L2.drop j).map seV)) (vs 18) wq2 := hF 18 (by decide) (by decide)
          have dq20 : vs 20 = .pointer (some ⟨q, 11, none⟩) := hF 20 (by decide) (by decide)
          clear hF
          try dsimp only
          generalize vs 18 = vq18 at dq18 ⊢
          generalize vs 20 = vq20 at dq20 ⊢
          subst vq20
          have hmw : Mod (fun _ => False) wQ wq2 := (Mod.drew _ _).of2 (HOLD.out _ hR)
          replace HS := Lib.hid (HS.out.step hmw)
          clear hmw HSd
          obtain ⟨av, cv, rfl, ho⟩ := dq18
          have hsv := (HS.out.now).2.2.2.1
          have hse := (HS.out.now).2.2.1
          have hmm := (HS.out.now).2.2.2.2
          obtain ⟨n3, hn3⟩ : ∃ y, j + 1 + (n2 - j) = y := ⟨_, rfl⟩
          have hfin : ((L2.take j).map seV ++ [.pointer (some ⟨xe, 0, none⟩)]) ++ (L2.drop j).map seV = (L2.take j ++ x :: L2.drop j).map seV := by rw [List.map_append, List.map_cons, List.append_assoc]; unfold seV; rw [HXE.out]; rfl
          rw [hfin, hn3] at ho
          rw [hn3]
          have hqB : q < B0 := by have h1 := HB0.out; have h2 := HMQ.out.size; have h3 := HS1.out.lt; omega
          have hL3 : ∀ y ∈ L2.take j ++ x :: L2.drop j, SEin wq2 q y := fun y hy => by
            rw [List.mem_append, List.mem_cons] at hy
            rcases hy with hy | rfl | hy
            · exact hsv.ents y (List.mem_of_mem_take hy)
            · exact hse
            · exact hsv.ents y (List.mem_of_mem_drop hy)
          obtain ⟨hr, hrm⟩ := hsv.reset (by rw [List.length_append, List.length_cons, List.length_take, List.length_drop]; omega) ho hqB hL3
          have c11 := hsv.cellR
          have f11 := hsv.free 11
          have lq := hsv.lt
          have hser := hse.keep hrm (fun _ _ e => e)
          have HRM := Lib.hid hrm
          have HRV := Lib.hid hr
          have HMM := Lib.hid hmm
          clear ho hsv hse hmm hfin hL3 hrm
          obtain ⟨wS, hwS⟩ : ∃ y, wq2.setCell ⟨q, 11, none⟩ (.slice av n3 cv) = y := ⟨_, rfl⟩
          rw [hwS] at hser HRM HRV
          have s0 := hser.e.cell 0 rfl
          have s1 := hser.e.cell 1 rfl
          have s2 := hser.c.cell 0 rfl
          rw [HXE.out] at s0 s1
          rw [HIP.out] at s0
          obtain ⟨xc, hxc⟩ : ∃ y, x.cb = y := ⟨_, rfl⟩
          obtain ⟨xn, hxn⟩ : ∃ y, x.conn = y := ⟨_, rfl⟩
          rw [hxc] at s1 s2
          rw [hxn] at s2
          have HXN := Lib.hid hxn
          have hsl : xe < wS.heap.size := by rw [← HXE.out]; exact hser.e.lt
          have hcl : xc < wS.heap.size := by rw [← hxc]; exact hser.c.lt
          clear hser hxc hxn hr
          go_wp2_with fail
          have cg := HRV.out.cellG hi
          have fg := HRV.out.free (12 + ip)
          have lq2 := HRV.out.lt
          have hixG := fun wx => run_indexA16 (P := Try.prog) wx 104 3 iI Try.underlying104 hiI hsI q 12 ip hi
          clear c11 f11 lq hwS
          go_region
          go_wp2_with fail
          go_end0
          obtain ⟨hfv, hfm⟩ := HRV.out.great hi xn
          obtain ⟨wT, hwT⟩ : ∃ y, wS.setCell ⟨q, 12 + ip, none⟩ (.int .i64 xn) = y := ⟨_, rfl⟩
          rw [hwT] at hfv hfm
          (try rw [hwT])
          have hall : Mod (fun k => k = q) w wT := ((HM1.out.trans HMQ.out (H := fun k => k = q) (fun _ _ e => e) (fun _ _ e => e.elim)).trans HMM.out (H := fun k => k = q) (fun _ _ e => e) (fun _ _ e => e.elim)).trans (HRM.out.trans hfm (H := fun k => k = q) (fun _ _ e => e) (fun _ _ e => e)) (fun _ _ e => e) (fun _ _ e => e)
          have hput := HL.out.put hi xn yv (A := L2.take j) (Q := L2.drop j) (by rw [HL2.out, List.take_append_drop]) x HIP.out HXN.out (fun z hz => HALL.out z hz) (fun z hz => HGT.out z hz)
          exact ⟨rfl, av, n3, cv, L2.take j ++ x :: L2.drop j, by rw [HIP.out, HXN.out]; exact hfv.later (Mod.drew _ _), by rw [HIP.out, HXN.out]; exact hput, hall.trans (Mod.drew (fun k => k = q) wT) (fun _ _ e => e) (fun _ _ e => e)⟩
end Go.Proofs.Ytfdmjnhhgcidbaa
