/- LeastShut walked. -/
import Derived.Test.YtgiojfihgdifbaaAwake12
import Derived.Test.YtgiojfihgdifbaaShut11
import Derived.Test.YtgiojfihgdifbaaKLeast
import Derived.Test.YtgiojfihgdifbaaRWalk
import Derived.Test.YtgiojfihgdifbaaR4
import Derived.Test.YtgiojfihgdifbaaRdT
import Derived.Test.YtgiojfihgdifbaaKOpen
import Derived.Test.YtgiojfihgdifbaaRegion2
import Derived.Deep.DeepCutAuto
import Derived.Deep.CutBlock
namespace Go.Proofs.Ytgiojfihgdifbaa
open Go.RowKit Mile
set_option maxRecDepth 100000
/-- Is one of these closed? -/
def anyC (cl : List Bool) (l : List Int) : Bool := l.any (fun x => clB cl x)
theorem anyC_take (cl : List Bool) (l : List Int) (k : Nat) (h : k < l.length) : anyC cl (l.take (k + 1)) = (anyC cl (l.take k) || clB cl l[k]) := by
  unfold anyC
  rw [List.take_succ_eq_append_getElem h, List.any_append]
  simp
theorem anyC_none {cl : List Bool} {l : List Int} (h : anyC cl l = false) : ∀ x ∈ l, clB cl x = false := fun x hx => by
  have := List.any_eq_false.1 h x hx
  simpa using this
theorem anyC_some {cl : List Bool} {l : List Int} (h : anyC cl l = true) : ∃ x ∈ l, clB cl x = true := List.any_eq_true.1 h
theorem WayL.edges {G : GD} {hm : May G} {v : Int} {cl : List Bool} {ev : Int} {r : Option (List Int)} (h : WayL G hm v cl ev r) : allE G (r.getD []) = true ∧ (∀ x ∈ r.getD [], clB cl x = false) := by
  rcases h with ⟨_, d, hf, rfl⟩ | ⟨_, rfl⟩
  · split
    · rename_i h0
      have hw := wayN_walk hf _ _ h0 (Nat.le_refl _)
      exact ⟨wlk_all G _ _ hw.1, hw.2.1⟩
    · exact ⟨rfl, fun x hx => by cases hx⟩
  · exact ⟨rfl, fun x hx => by cases hx⟩
/-- What closing does to a way. -/
theorem way_shut {G : GD} {hm : May G} {v : Int} {cl : List Bool} {k : Nat} {r s : Option (List Int)} (h : WayL G hm v [] (k : Int) r) (h' : WayL G hm v cl (k : Int) s) :
    (r = none → s = none) ∧ (r.isSome = true → anyC cl (r.getD []) = false → s = r) ∧ (r.isSome = true → anyC cl (r.getD []) = true → s.isSome = true → wS G (r.getD []) ≤ wS G (s.getD []) ∧ s.getD [] ≠ r.getD []) := by
  rcases h with ⟨hv, d, hf, hr⟩ | ⟨hv, hr⟩
  · rcases h' with ⟨_, d', hf', hs⟩ | ⟨hv', _⟩
    · rw [Int.toNat_natCast] at hr hs
      by_cases h0 : 0 ≤ dAt d k
      · rw [if_pos h0] at hr
        subst hr
        refine ⟨fun e => (by cases e), fun _ hn => ?_, fun _ hy hso => ?_⟩
        · have hw := way_same hf hf' _ k h0 (Nat.le_refl _) (anyC_none hn)
          rw [hs, if_pos (by omega), hw.2]
        · by_cases h0' : 0 ≤ dAt d' k
          · rw [if_pos h0'] at hs
            subst hs
            have w1 := wayN_walk hf _ k h0 (Nat.le_refl _)
            have w2 := wayN_walk hf' _ k h0' (Nat.le_refl _)
            have hle := close_le hf hf' k h0'
            refine ⟨by show wS G (wayN G d [] k) ≤ wS G (wayN G d' cl k); rw [w1.2.2.1, w2.2.2.1]; exact hle.2, fun e => ?_⟩
            obtain ⟨x, hx, hc⟩ := anyC_some hy
            replace e : wayN G d' cl k = wayN G d [] k := e
            replace hx : x ∈ wayN G d [] k := hx
            rw [← e] at hx
            rw [w2.2.1 x hx] at hc
            cases hc
          · rw [if_neg h0'] at hs
            rw [hs] at hso
            cases hso
      · rw [if_neg h0] at hr
        subst hr
        refine ⟨fun _ => ?_, fun e => (by cases e), fun e => (by cases e)⟩
        rw [hs, if_neg (none_more hf hf' k h0)]
    · exact absurd hv hv'
  · rcases h' with ⟨hv', _⟩ | ⟨_, hs⟩
    · exact absurd hv' hv
    · subst hr
      exact ⟨fun _ => hs, fun e => (by cases e), fun e => (by cases e)⟩
/-- What each operation of the statement leaves. -/
def ls_r6_0_F (nv : Int) (ev : Int) (re : Int) (rv : Int) (a1 : Option Addr) (a2 : Option Addr) (n1 : Nat) (d1 : Nat) (n2 : Nat) (d2 : Nat) (bg : Nat) : List (Value → World → Prop) :=
  [IsV (.int .i64 ev),
   IsV (.pointer (some ⟨bg, 1, none⟩)),
   IsV (.slice a2 n2 d2),
   IsV (.int .i64 (n2 : Int)),
   IsV (.int .i64 re),
   IsV (.int .i64 nv),
   IsV (.pointer (some ⟨bg, 0, none⟩)),
   IsV (.slice a1 n1 d1),
   IsV (.int .i64 (n1 : Int)),
   IsV (.int .i64 rv),
   IsV (.int .i64 re),
   IsV (.int .i64 rv)]
def ls_r6_0_D : List (List Nat) := [[], [], [1], [2], [0, 3], [], [], [6], [7], [5, 8], [4], [9]]

/-- What each operation of the statement leaves. -/
def ls_r13_1_F (lw : Nat) (cw : Nat) (i0 : Nat) (xq : Nat) (aw : Option Addr) (a1 : Option Addr) (a2 : Option Addr) (a3 : Option Addr) (n1 : Nat) (d1 : Nat) (n2 : Nat) (d2 : Nat) (n3 : Nat) (d3 : Nat) (fb : Nat) (fo : Nat) : List (Value → World → Prop) :=
  [IsV (.agg #[.slice a1 n1 d1, .slice a2 n2 d2, .slice a3 n3 d3]),
   IsV (.slice aw lw cw),
   IsV (.int .i64 (i0 : Int)),
   IsV (.pointer (some ⟨fb, fo, none⟩)),
   IsV (.int .i64 (xq : Int)),
   IsV (.bool true),
   IsV (.bool false)]
def ls_r13_1_D : List (List Nat) := [[], [], [], [1, 2], [3], [0, 4], [5]]

set_option maxHeartbeats 64000000 in
theorem lshut_all (w : World) (a0 : Option Addr) (m c0 : Nat) (l : List Int) (hm : l.length = m) (hr : Rd w 1 (.slice a0 m c0) m (l.map (Value.int .i64))) (ev nv : Int) (a4 : Option Addr) (n4 d4 : Nat) (sh : List Int) (hn4 : sh.length = n4) (hr4 : Rd w 1 (.slice a4 n4 d4) n4 (sh.map (Value.int .i64))) :
    Calls Try.prog 10 #[.slice a0 m c0, .int .i64 ev, .int .i64 nv, .slice a4 n4 d4] w fun e w' => e = .returned (.bool true) ∧ Mod (fun _ => False) w w' := by
  obtain ⟨iI, hiI, hzI, hsI, hbI⟩ := info_parts GR.infoI
  obtain ⟨iB, hiB, hzB, hsB, hbB⟩ := info_parts GR.infoBo
  by_cases hlen0 : m ≤ 100
  case neg =>
    have HS : Hid (Ev (Mod (fun _ => False) w) w) := Lib.hid (Ev.mod w)
    have z0 : decide (100 < (m : Int)) = true := by simp; omega
    have z1 : decide (100 < m) = true := by simp; omega
    go_enter Try.func10, Try.ntmps10
    go_wp2_with fail
    refine (awake12_any _).mono ?_
    rintro e wq1 ⟨rfl, hm⟩
    replace HS := Lib.hid (HS.out.step hm)
    clear hm
    go_wp2_with fail
    go_ret
    exact ⟨rfl, HS.out.now⟩
  by_cases hlen1 : n4 ≤ 30
  case neg =>
    have HS : Hid (Ev (Mod (fun _ => False) w) w) := Lib.hid (Ev.mod w)
    have y0 : decide (100 < (m : Int)) = false := by simp; omega
    have z0 : decide (30 < (n4 : Int)) = true := by simp; omega
    have z1 : decide (30 < n4) = true := by simp; omega
    go_enter Try.func10, Try.ntmps10
    go_wp2_with fail
    refine (awake12_any _).mono ?_
    rintro e wq2 ⟨rfl, hm⟩
    replace HS := Lib.hid (HS.out.step hm)
    clear hm
    go_wp2_with fail
    go_ret
    exact ⟨rfl, HS.out.now⟩
  have HS : Hid (Ev (Mod (fun _ => False) w) w) := Lib.hid (Ev.mod w)
  have y0 : decide (100 < (m : Int)) = false := by simp; omega
  have y1 : decide (30 < (n4 : Int)) = false := by simp; omega
  replace HS := Lib.hid ((Ev.rd hr).and HS.out)
  replace HS := Lib.hid ((Ev.rd hr4).and HS.out)
  have HN4 := Lib.hid hn4
  clear hr hr4 hn4
  go_enter Try.func10, Try.ntmps10
  go_wp2_with fail
  refine (M12.made12_any _ a0 m c0 l hm ((HS.out.now).2.1)).mono ?_
  rintro e wq3 ⟨a1, n1, d1, a2, n2, d2, a3, n3, d3, t, p, B, C, rfl, hg, hto, hmm⟩
  replace HS := Lib.hid (HS.out.step hmm)
  clear hmm
  replace HS := Lib.hid ((Ev.gv hg).and HS.out)
  replace HS := Lib.hid ((Ev.to hto).and HS.out)
  clear hg hto y0 y1
  have hmay := Lib.hid (town_may l)
  have hfew := Lib.hid (town_few l)
  obtain ⟨G, hG⟩ : ∃ G, townG l = G := ⟨_, rfl⟩
  rw [hG] at hmay hfew
  rw [hG] at HS
  clear hG
  have hn := Lib.hid ((HS.out.now).2.1.n)
  have he := Lib.hid ((HS.out.now).2.1.e)
  have hb := Lib.hid ((HS.out.now).2.1.b)
  have h1n : n1 ≤ 16 := by have := hfew.out.1.2; have := hn.out; omega
  have h2n : n2 ≤ 67 := by have := hfew.out.2.1.2; have := he.out; omega
  have h2p : 1 ≤ n2 := by have := hfew.out.2.1.1; have := he.out; omega
  have h3n : n3 ≤ 469 := by have := hfew.out.2.2; have := hb.out; omega
  go_wp2_with fail
  obtain ⟨bg, hbg⟩ : ∃ b, wq3.heap.size = b := ⟨_, rfl⟩
  obtain ⟨wq4, hwq4⟩ : ∃ W, World.alloc wq3 (.cells #[.slice a1 n1 d1, .slice a2 n2 d2, .slice a3 n3 d3] 29) = W := ⟨_, rfl⟩
  have hBbg : Blk wq4 bg 29 [.slice a1 n1 d1, .slice a2 n2 d2, .slice a3 n3 d3] := by rw [← hwq4, ← hbg]; exact Blk.new _ 29 [.slice a1 n1 d1, .slice a2 n2 d2, .slice a3 n3 d3]
  have hzbg : wq4.heap.size = bg + 1 := by rw [← hwq4, ← hbg]; exact heap_size_alloc _ _
  replace HS := Lib.hid (HS.out.step (w' := wq4) (by rw [← hwq4]; exact Mod.alloc _ _ _))
  replace HS := Lib.hid ((Ev.blk hBbg).and HS.out)
  try rw [hwq4]
  try rw [hbg]
  clear hzbg hBbg hbg hwq4
  have hbbg := (HS.out.now).1
  have qbg_0 := hbbg.cell 0 rfl
  have qbg_1 := hbbg.cell 1 rfl
  have qbg_2 := hbbg.cell 2 rfl
  have lbg := hbbg.lt
  clear hbbg
  have hGE : 1 ≤ G.E.length := by rw [he.out]; exact h2p
  have h1p : 1 ≤ n1 := by have := hfew.out.1.1; have := hn.out; omega
  go_upto_region 6 with fail
  have hre0 := Int.emod_nonneg ev (b := (n2 : Int)) (by omega)
  have hre1 := Int.emod_lt_of_pos ev (b := (n2 : Int)) (by omega)
  obtain ⟨re, hre⟩ : ∃ y, ev % (n2 : Int) = y := ⟨_, rfl⟩
  rw [hre] at hre0 hre1
  have HRE := Lib.hid hre
  clear hre
  have hrv0 := Int.emod_nonneg nv (b := (n1 : Int)) (by omega)
  have hrv1 := Int.emod_lt_of_pos nv (b := (n1 : Int)) (by omega)
  obtain ⟨rv, hrv⟩ : ∃ y, nv % (n1 : Int) = y := ⟨_, rfl⟩
  rw [hrv] at hrv0 hrv1
  have HRV := Lib.hid hrv
  clear hrv
  clear qbg_0 qbg_1 qbg_2 lbg
  have HSd := Lib.hid HS.out.drew
  refine wp_region_inv3 (act := ?actls_r6_0) (Mod (fun _ => False)) (fun i => (ls_r6_0_F nv ev re rv a1 a2 n1 d1 n2 d2 bg).getD i (fun _ _ => True)) (fun i => ls_r6_0_D.getD i []) (by kernel_rfl) (by kernel_rfl) (by kernel_rfl) (by kernel_rfl) (fun _ => Mod.refl _ _)
    (fun _ _ _ h k => h.trans k (fun _ _ e => e) (fun _ _ e => e)) ?hactls_r6_0 (stable_list ?_) ?_ ?_
  case hactls_r6_0 => intro vs; simp only [putAll, Nat.zero_add, Nat.reduceAdd, Act.put, List.setIfInBounds_toArray, List.set_cons_succ, List.set_cons_zero]; exact rfl
  · unfold ls_r6_0_F
    exact stable_cons (stable_val _) <| stable_cons (stable_val _) <| stable_cons (stable_val _) <| stable_cons (stable_val _) <| stable_cons (stable_val _) <| stable_cons (stable_val _) <| stable_cons (stable_val _) <| stable_cons (stable_val _) <| stable_cons (stable_val _) <| stable_cons (stable_val _) <| stable_cons (stable_val _) <| stable_cons (stable_val _) <| stable_nil
  · refine opsOkA_cons ?_ ?_
    · intro K vs W hR hD hK
      clear hD
      try dsimp only at hK ⊢
      simp only [Act.put, List.setIfInBounds_toArray, List.set_cons_succ, List.set_cons_zero] at hK
      go_wp2
      exact hK _ _ rfl (Mod.refl _ _)
    refine opsOkA_cons ?_ ?_
    · intro K vs W hR hD hK
      clear hD
      try dsimp only at hK ⊢
      simp only [Act.put, List.setIfInBounds_toArray, List.set_cons_succ, List.set_cons_zero] at hK
      go_wp2
      exact hK _ _ rfl (Mod.refl _ _)
    refine opsOkA_cons ?_ ?_
    · intro K vs W hR hD hK
      have dq1 : vs 1 = .pointer (some ⟨bg, 1, none⟩) := hD 1 (by decide)
      clear hD
      try dsimp only at hK ⊢
      simp only [Act.put, List.setIfInBounds_toArray, List.set_cons_succ, List.set_cons_zero] at hK
      generalize vs 1 = vq1 at hK dq1 ⊢
      subst vq1
      have q0 := ((HSd.out.at (hR)).1).cell 1 rfl
      go_wp2
      exact hK _ _ rfl (Mod.refl _ _)
    refine opsOkA_cons ?_ ?_
    · intro K vs W hR hD hK
      have dq2 : vs 2 = .slice a2 n2 d2 := hD 2 (by decide)
      clear hD
      try dsimp only at hK ⊢
      simp only [Act.put, List.setIfInBounds_toArray, List.set_cons_succ, List.set_cons_zero] at hK
      generalize vs 2 = vq2 at hK dq2 ⊢
      subst vq2
      go_wp2_with fail
      exact hK _ _ rfl (Mod.refl _ _)
    refine opsOkA_cons ?_ ?_
    · intro K vs W hR hD hK
      have dq0 : vs 0 = .int .i64 ev := hD 0 (by decide)
      have dq3 : vs 3 = .int .i64 (n2 : Int) := hD 3 (by decide)
      clear hD
      try dsimp only at hK ⊢
      simp only [Act.put, List.setIfInBounds_toArray, List.set_cons_succ, List.set_cons_zero] at hK
      generalize vs 0 = vq0 at hK dq0 ⊢
      subst vq0
      generalize vs 3 = vq3 at hK dq3 ⊢
      subst vq3
      go_wp2_with (go_at_call 21; refine (round_any ev (n2 : Int) W (by omega) (by omega)).mono ?_; rintro e' w' ⟨rfl, rfl⟩; rw [HRE.out])
      exact hK _ _ rfl (Mod.refl _ _)
    refine opsOkA_cons ?_ ?_
    · intro K vs W hR hD hK
      clear hD
      try dsimp only at hK ⊢
      simp only [Act.put, List.setIfInBounds_toArray, List.set_cons_succ, List.set_cons_zero] at hK
      go_wp2
      exact hK _ _ rfl (Mod.refl _ _)
    refine opsOkA_cons ?_ ?_
    · intro K vs W hR hD hK
      clear hD
      try dsimp only at hK ⊢
      simp only [Act.put, List.setIfInBounds_toArray, List.set_cons_succ, List.set_cons_zero] at hK
      go_wp2
      exact hK _ _ rfl (Mod.refl _ _)
    refine opsOkA_cons ?_ ?_
    · intro K vs W hR hD hK
      have dq6 : vs 6 = .pointer (some ⟨bg, 0, none⟩) := hD 6 (by decide)
      clear hD
      try dsimp only at hK ⊢
      simp only [Act.put, List.setIfInBounds_toArray, List.set_cons_succ, List.set_cons_zero] at hK
      generalize vs 6 = vq6 at hK dq6 ⊢
      subst vq6
      have q0 := ((HSd.out.at (hR)).1).cell 0 rfl
      go_wp2
      exact hK _ _ rfl (Mod.refl _ _)
    refine opsOkA_cons ?_ ?_
    · intro K vs W hR hD hK
      have dq7 : vs 7 = .slice a1 n1 d1 := hD 7 (by decide)
      clear hD
      try dsimp only at hK ⊢
      simp only [Act.put, List.setIfInBounds_toArray, List.set_cons_succ, List.set_cons_zero] at hK
      generalize vs 7 = vq7 at hK dq7 ⊢
      subst vq7
      go_wp2_with fail
      exact hK _ _ rfl (Mod.refl _ _)
    refine opsOkA_cons ?_ ?_
    · intro K vs W hR hD hK
      have dq5 : vs 5 = .int .i64 nv := hD 5 (by decide)
      have dq8 : vs 8 = .int .i64 (n1 : Int) := hD 8 (by decide)
      clear hD
      try dsimp only at hK ⊢
      simp only [Act.put, List.setIfInBounds_toArray, List.set_cons_succ, List.set_cons_zero] at hK
      generalize vs 5 = vq5 at hK dq5 ⊢
      subst vq5
      generalize vs 8 = vq8 at hK dq8 ⊢
      subst vq8
      go_wp2_with (go_at_call 21; refine (round_any nv (n1 : Int) W (by omega) (by omega)).mono ?_; rintro e' w' ⟨rfl, rfl⟩; rw [HRV.out])
      exact hK _ _ rfl (Mod.refl _ _)
    refine opsOkA_cons ?_ ?_
    · intro K vs W hR hD hK
      have dq4 : vs 4 = .int .i64 re := hD 4 (by decide)
      clear hD
      try dsimp only at hK ⊢
      simp only [Act.put, List.setIfInBounds_toArray, List.set_cons_succ, List.set_cons_zero] at hK
      generalize vs 4 = vq4 at hK dq4 ⊢
      subst vq4
      go_wp2
      exact hK _ _ rfl (Mod.refl _ _)
    refine opsOkA_cons ?_ ?_
    · intro K vs W hR hD hK
      have dq9 : vs 9 = .int .i64 rv := hD 9 (by decide)
      clear hD
      try dsimp only at hK ⊢
      simp only [Act.put, List.setIfInBounds_toArray, List.set_cons_succ, List.set_cons_zero] at hK
      generalize vs 9 = vq9 at hK dq9 ⊢
      subst vq9
      go_wp2
      exact hK _ _ rfl (Mod.refl _ _)
    exact opsOkA_nil
  · intro vs wq5 hR hF
    have dq10 : vs 10 = .int .i64 re := hF 10 (by decide)
    have dq11 : vs 11 = .int .i64 rv := hF 11 (by decide)
    clear hF
    try dsimp only
    generalize vs 10 = vq10 at dq10 ⊢
    subst dq10
    generalize vs 11 = vq11 at dq11 ⊢
    subst dq11
    replace HS := Lib.hid (HSd.out.step hR)
    clear HSd hR
    have hbbg := (HS.out.now).1
    have qbg_0 := hbbg.cell 0 rfl
    have qbg_1 := hbbg.cell 1 rfl
    have qbg_2 := hbbg.cell 2 rfl
    have lbg := hbbg.lt
    clear hbbg
    have hnv : 0 ≤ rv ∧ rv < (G.N.length : Int) := ⟨hrv0, by rw [hn.out]; exact hrv1⟩
    obtain ⟨kr, hkr⟩ := Int.eq_ofNat_of_zero_le hre0
    subst hkr
    have hkE : kr < G.E.length := by rw [he.out]; omega
    have HVN := Lib.hid hnv
    clear hnv
    go_wp2_with fail
    refine (lway_any t p B C G hmay.out _ ((HS.out.now).2.1) (kr : Int) rv none 0 0 [] rfl (Rd.nil _ _)).mono ?_
    rintro e wq6 ⟨r, hwr, aw, lw, cw, rfl, hwl, hwd, hmm⟩
    replace HS := Lib.hid (HS.out.step hmm)
    clear hmm
    replace HS := Lib.hid ((Ev.rd hwd).and HS.out)
    have hln := hwr.len
    have HED := Lib.hid hwr.edges
    have HWR := Lib.hid hwr
    rw [hwl] at hln
    obtain ⟨ws, hws⟩ : ∃ x, r.getD [] = x := ⟨_, rfl⟩
    obtain ⟨ok, hok⟩ : ∃ x, r.isSome = x := ⟨_, rfl⟩
    rw [hok]
    rw [hws] at HS hwl HED
    have HWL := Lib.hid hwl
    have HWS := Lib.hid hws
    have HOK := Lib.hid hok
    clear hwd hwr hwl hws hok
    clear qbg_0 qbg_1 qbg_2 lbg
    have hbbg := (HS.out.now).2.1
    have qbg_0 := hbbg.cell 0 rfl
    have qbg_1 := hbbg.cell 1 rfl
    have qbg_2 := hbbg.cell 2 rfl
    have lbg := hbbg.lt
    clear hbbg
    go_wp2_with fail
    refine (shut_row G hGE _ a1 n1 d1 a2 n2 d2 a3 n3 d3 ((HS.out.now).2.2.2.1) (by omega) a4 n4 d4 sh HN4.out ((HS.out.now).2.2.2.2.1) (by omega)).mono ?_
    rintro e wq7 ⟨x, rfl, ⟨ac, nc, cc, rfl, hnc, hcl⟩, hmm⟩
    replace HS := Lib.hid (HS.out.step hmm)
    clear hmm
    replace HS := Lib.hid ((Ev.rd hcl).and HS.out)
    obtain rfl : n2 = nc := by rw [← hnc]; exact (shutL_len n2 sh).symm
    have HNC := Lib.hid hnc
    clear hcl hnc
    clear qbg_0 qbg_1 qbg_2 lbg
    have hbbg := (HS.out.now).2.2.1
    have qbg_0 := hbbg.cell 0 rfl
    have qbg_1 := hbbg.cell 1 rfl
    have qbg_2 := hbbg.cell 2 rfl
    have lbg := hbbg.lt
    clear hbbg
    go_wp2_with fail
    replace HS := Lib.hid ((Ev.mod wq7).and HS.out)
    go_loopw [16, 17] (fun ov iv wr => ∃ (i0 : Nat) (on : Bool), i0 ≤ lw ∧ iv = .int .i64 i0 ∧ ov = .bool on ∧ on = anyC (shutL n2 sh) (ws.take i0) ∧ Mod (fun _ => False) wq7 wr) (fun ov iv _ => lw - (intOf iv).toNat)
    case atStart => exact ⟨0, false, by omega, rfl, rfl, by simp [anyC], Mod.refl _ _⟩
    case round =>
      obtain ⟨i0, on, hi0, rfl, rfl, hs, hmr⟩ := hrel
      obtain ⟨wl, hwo⟩ : ∃ x : World, x = wr := ⟨_, rfl⟩
      subst hwo
      replace HS := Lib.hid (HS.out.step hmr)
      clear hmr
      clear qbg_0 qbg_1 qbg_2 lbg
      have hbbg := (HS.out.now).2.2.2.1
      have qbg_0 := hbbg.cell 0 rfl
      have qbg_1 := hbbg.cell 1 rfl
      have qbg_2 := hbbg.cell 2 rfl
      have lbg := hbbg.lt
      clear hbbg
      have HON := Lib.hid hs
      clear hs
      by_cases hli : i0 < lw
      case pos =>
        have z0 : decide ((i0 : Int) < (lw : Int)) = true := by simp; omega
        have hil : i0 < ws.length := by rw [HWL.out]; exact hli
        have hxe : edB G ws[i0] = true := by have h := HED.out.1; unfold allE at h; exact List.all_eq_true.1 h _ (List.getElem_mem hil)
        have hxo := of_decide_eq_true hxe
        obtain ⟨xq, hxq⟩ := Int.eq_ofNat_of_zero_le hxo.1
        have hxE : xq < G.E.length := by omega
        have hxn : xq < n2 := by rw [← he.out]; exact hxE
        have hxc : xq < (shutL n2 sh).length := by rw [HNC.out]; exact hxn
        have hon := anyC_take (shutL n2 sh) ws i0 hil
        rw [← HON.out, hxq] at hon
        have hcb : clB (shutL n2 sh) (xq : Int) = (shutL n2 sh)[xq] := by unfold clB; rw [decide_eq_true (by omega), Bool.true_and, Int.toNat_natCast, List.getD, List.getElem?_eq_getElem hxc]; rfl
        rw [hcb] at hon
        have HXQ := Lib.hid hxq
        clear hxq hxo hxe hcb
        obtain ⟨bv_, HCB0⟩ : ∃ qz, (shutL n2 sh)[xq] = qz := ⟨_, rfl⟩
        have HCB := Lib.hid HCB0
        clear HCB0
        rw [HCB.out] at hon
        have HO2 := Lib.hid hon
        clear hon
        obtain ⟨fb, fo, hpl, e0⟩ := rd1 (HS.out.now).2.2.1 i0 hil
        have hix := fun wx => run_indexS (P := Try.prog) wx 22 3 iI 1 Try.underlying22 hiI hsI aw lw cw i0 hli ((HS.out.now).2.2.1.some_ (by have := hli; omega))
        rw [hpl] at hix
        have HIf := Lib.hid hix
        clear hix hpl
        rw [HXQ.out] at e0
        replace HS := Lib.hid ((Ev.cell e0).and HS.out)
        clear e0
        obtain ⟨cb, co, hpl, e0⟩ := rdb (HS.out.now).2.2.1 xq hxc
        have hix := fun wx => run_indexS (P := Try.prog) wx 23 4 iB 1 Try.underlying23 hiB hsB ac n2 cc xq hxn ((HS.out.now).2.2.1.some_ (by have := hxn; omega))
        rw [hpl] at hix
        have HIc := Lib.hid hix
        clear hix hpl
        rw [HCB.out] at e0
        replace HS := Lib.hid ((Ev.cell e0).and HS.out)
        clear e0
        go_upto_region 13 with fail
        clear qbg_0 qbg_1 qbg_2 lbg
        have HSd := Lib.hid HS.out.drew
        refine wp_region_inv3 (act := ?actls_r13_1) (Mod (fun _ => False)) (fun i => (ls_r13_1_F lw cw i0 xq aw a1 a2 a3 n1 d1 n2 d2 n3 d3 fb fo).getD i (fun _ _ => True)) (fun i => ls_r13_1_D.getD i []) (by kernel_rfl) (by kernel_rfl) (by kernel_rfl) (by kernel_rfl) (fun _ => Mod.refl _ _)
          (fun _ _ _ h k => h.trans k (fun _ _ e => e) (fun _ _ e => e)) ?hactls_r13_1 (stable_list ?_) ?_ ?_
        case hactls_r13_1 => intro vs; simp only [putAll, Nat.zero_add, Nat.reduceAdd, Act.put, List.setIfInBounds_toArray, List.set_cons_succ, List.set_cons_zero]; exact rfl
        · unfold ls_r13_1_F
          exact stable_cons (stable_val _) <| stable_cons (stable_val _) <| stable_cons (stable_val _) <| stable_cons (stable_val _) <| stable_cons (stable_val _) <| stable_cons (stable_val _) <| stable_cons (stable_val _) <| stable_nil
        · refine opsOkA_cons ?_ ?_
          · intro K vs W hR hD hK
            clear hD
            try dsimp only at hK ⊢
            simp only [Act.put, List.setIfInBounds_toArray, List.set_cons_succ, List.set_cons_zero] at hK
            have hbx := (HSd.out.at (hR)).2.2.2.2.2.1
            have q0 := hbx.cell 0 rfl
            have q1 := hbx.cell 1 rfl
            have q2 := hbx.cell 2 rfl
            go_wp2
            exact hK _ _ rfl (Mod.refl _ _)
          refine opsOkA_cons ?_ ?_
          · intro K vs W hR hD hK
            clear hD
            try dsimp only at hK ⊢
            simp only [Act.put, List.setIfInBounds_toArray, List.set_cons_succ, List.set_cons_zero] at hK
            go_wp2
            exact hK _ _ rfl (Mod.refl _ _)
          refine opsOkA_cons ?_ ?_
          · intro K vs W hR hD hK
            clear hD
            try dsimp only at hK ⊢
            simp only [Act.put, List.setIfInBounds_toArray, List.set_cons_succ, List.set_cons_zero] at hK
            go_wp2
            exact hK _ _ rfl (Mod.refl _ _)
          refine opsOkA_cons ?_ ?_
          · intro K vs W hR hD hK
            have dq1 : vs 1 = .slice aw lw cw := hD 1 (by decide)
            have dq2 : vs 2 = .int .i64 (i0 : Int) := hD 2 (by decide)
            clear hD
            try dsimp only at hK ⊢
            simp only [Act.put, List.setIfInBounds_toArray, List.set_cons_succ, List.set_cons_zero] at hK
            generalize vs 1 = vq1 at hK dq1 ⊢
            subst vq1
            generalize vs 2 = vq2 at hK dq2 ⊢
            subst vq2
            have hix := HIf.out
            go_wp2_with fail
            exact hK _ _ rfl (Mod.refl _ _)
          refine opsOkA_cons ?_ ?_
          · intro K vs W hR hD hK
            have dq3 : vs 3 = .pointer (some ⟨fb, fo, none⟩) := hD 3 (by decide)
            clear hD
            try dsimp only at hK ⊢
            simp only [Act.put, List.setIfInBounds_toArray, List.set_cons_succ, List.set_cons_zero] at hK
            generalize vs 3 = vq3 at hK dq3 ⊢
            subst vq3
            have c0 := (HSd.out.at (hR)).2.1
            go_wp2
            exact hK _ _ rfl (Mod.refl _ _)
          refine opsOkA_cons ?_ ?_
          · intro K vs W hR hD hK
            have dq0 : vs 0 = .agg #[.slice a1 n1 d1, .slice a2 n2 d2, .slice a3 n3 d3] := hD 0 (by decide)
            have dq4 : vs 4 = .int .i64 (xq : Int) := hD 4 (by decide)
            clear hD
            try dsimp only at hK ⊢
            simp only [Act.put, List.setIfInBounds_toArray, List.set_cons_succ, List.set_cons_zero] at hK
            generalize vs 0 = vq0 at hK dq0 ⊢
            subst vq0
            generalize vs 4 = vq4 at hK dq4 ⊢
            subst vq4
            go_wp2_with (go_at_call 31; refine (r4edge_any G W a1 n1 d1 a2 n2 d2 a3 n3 d3 ((HSd.out.at (hR)).2.2.2.2.2.2.2.1) (by omega) (xq : Int)).mono ?_; rintro e' w' ⟨rfl, hm'⟩; rw [decide_eq_true (show 0 ≤ (xq : Int) ∧ (xq : Int) < (G.E.length : Int) by omega)])
            exact hK _ _ rfl hm'
          refine opsOkA_cons ?_ ?_
          · intro K vs W hR hD hK
            have dq5 : vs 5 = .bool true := hD 5 (by decide)
            clear hD
            try dsimp only at hK ⊢
            simp only [Act.put, List.setIfInBounds_toArray, List.set_cons_succ, List.set_cons_zero] at hK
            generalize vs 5 = vq5 at hK dq5 ⊢
            subst vq5
            go_wp2
            exact hK _ _ rfl (Mod.refl _ _)
          exact opsOkA_nil
        · intro vs wq8 hR hF
          have dq6 : vs 6 = .bool false := hF 6 (by decide)
          clear hF
          try dsimp only
          generalize vs 6 = vq6 at dq6 ⊢
          subst dq6
          replace HS := Lib.hid (HSd.out.step hR)
          clear HSd hR
          have hbbg := (HS.out.now).2.2.2.2.2.1
          have qbg_0 := hbbg.cell 0 rfl
          have qbg_1 := hbbg.cell 1 rfl
          have qbg_2 := hbbg.cell 2 rfl
          have lbg := hbbg.lt
          clear hbbg
          have qf := (HS.out.now).2.1
          have hix1 := HIf.out
          have qc := (HS.out.now).1
          have hix2 := HIc.out
          cases on with
          | true =>
            go_wp2_with fail
            go_roundw
            case rel => exact ⟨i0 + 1, _, hli, by go_num, rfl, by rw [HO2.out]; rfl, (HS.out.now).2.2.1⟩
            case measure => simp [intOf]; omega
          | false =>
            go_wp2_with fail
            go_roundw
            case rel => exact ⟨i0 + 1, bv_, hli, by go_num, rfl, by rw [HO2.out]; rfl, (HS.out.now).2.2.1⟩
            case measure => simp [intOf]; omega
      case neg =>
        obtain rfl : lw = i0 := by omega
        have z0 : decide ((lw : Int) < (lw : Int)) = false := by simp
        have hon := HON.out
        rw [List.take_of_length_le (by rw [HWL.out]; exact Nat.le_refl _)] at hon
        have HON2 := Lib.hid hon
        clear hon
        go_wp2_with fail
        refine (lway_any t p B C G hmay.out _ ((HS.out.now).2.2.2.2.1) (kr : Int) rv ac n2 cc (shutL n2 sh) HNC.out ((HS.out.now).2.1)).mono ?_
        rintro e wq9 ⟨s, hsr, ax, lx, cx, rfl, hxl, hxd, hmm⟩
        replace HS := Lib.hid (HS.out.step hmm)
        clear hmm
        replace HS := Lib.hid ((Ev.rd hxd).and HS.out)
        have hlx := hsr.len
        rw [hxl] at hlx
        have HEX := Lib.hid hsr.edges
        obtain ⟨b1, b2, b3⟩ := way_shut HWR.out hsr
        rw [HWS.out, HOK.out] at b2 b3
        rw [← HON2.out] at b2 b3
        obtain ⟨xs, hxs⟩ : ∃ x, s.getD [] = x := ⟨_, rfl⟩
        obtain ⟨is, his⟩ : ∃ x, s.isSome = x := ⟨_, rfl⟩
        rw [hxs, his] at b3
        rw [his]
        rw [hxs] at HS hxl HEX
        have HXL := Lib.hid hxl
        have HB1 := Lib.hid b1
        have HB2 := Lib.hid b2
        have HB3 := Lib.hid b3
        have HXS := Lib.hid hxs
        have HIS := Lib.hid his
        clear z0 hxd hsr hxl b1 b2 b3 hxs his
        clear qbg_0 qbg_1 qbg_2 lbg
        have hbbg := (HS.out.now).2.2.2.2.1
        have qbg_0 := hbbg.cell 0 rfl
        have qbg_1 := hbbg.cell 1 rfl
        have qbg_2 := hbbg.cell 2 rfl
        have lbg := hbbg.lt
        clear hbbg
        cases ok with
        | false =>
          have hrn : r = none := by have h := HOK.out; cases r with | none => rfl | some x => cases h
          have hsn := HB1.out hrn
          have hi2 : is = false := by rw [← HIS.out, hsn]; rfl
          subst hi2
          clear hrn hsn
          go_wp2_with fail
          refine (awake12_any _).mono ?_
          rintro e wq10 ⟨rfl, hmz⟩
          replace HS := Lib.hid (HS.out.step hmz)
          clear hmz
          clear qbg_0 qbg_1 qbg_2 lbg
          have hbbg := (HS.out.now).2.2.2.2.1
          have qbg_0 := hbbg.cell 0 rfl
          have qbg_1 := hbbg.cell 1 rfl
          have qbg_2 := hbbg.cell 2 rfl
          have lbg := hbbg.lt
          clear hbbg
          go_wp2_with fail
          go_ret
          exact ⟨rfl, (HS.out.now).2.2.2.2.2.2.2.2.2⟩
        | true =>
          cases on with
          | false =>
            have hsr := HB2.out (by first | trivial | rfl) (by first | trivial | rfl)
            have hi2 : is = true := by rw [← HIS.out, hsr]; exact HOK.out
            subst hi2
            have hxw : xs = ws := by rw [← HXS.out, hsr]; exact HWS.out
            subst hxw
            have hll : lx = lw := by rw [← HXL.out]; exact HWL.out
            subst hll
            clear hsr
            go_wp2_with fail
            refine (ints_any _ ax lx cx xs HXL.out ((HS.out.now).1) aw lx cw xs HWL.out ((HS.out.now).2.2.2.1) (by omega)).mono ?_
            rintro e w' ⟨rfl, kd, rfl⟩
            rw [decide_eq_true rfl]
            clear qbg_0 qbg_1 qbg_2 lbg
            obtain ⟨wi, hwi⟩ : ∃ x : World, x = wq9.drewN kd := ⟨_, rfl⟩
            rw [← hwi]
            have hmi : Mod (fun _ => False) wq9 wi := by rw [hwi]; exact Mod.drewN _ _ _
            clear hwi
            replace HS := Lib.hid (HS.out.step hmi)
            clear hmi
            have hbbg := (HS.out.now).2.2.2.2.1
            have qbg_0 := hbbg.cell 0 rfl
            have qbg_1 := hbbg.cell 1 rfl
            have qbg_2 := hbbg.cell 2 rfl
            have lbg := hbbg.lt
            clear hbbg
            go_wp2_with fail
            refine (awake12_any _).mono ?_
            rintro e wq11 ⟨rfl, hmz⟩
            replace HS := Lib.hid (HS.out.step hmz)
            clear hmz
            clear qbg_0 qbg_1 qbg_2 lbg
            have hbbg := (HS.out.now).2.2.2.2.1
            have qbg_0 := hbbg.cell 0 rfl
            have qbg_1 := hbbg.cell 1 rfl
            have qbg_2 := hbbg.cell 2 rfl
            have lbg := hbbg.lt
            clear hbbg
            go_wp2_with fail
            go_ret
            exact ⟨rfl, (HS.out.now).2.2.2.2.2.2.2.2.2⟩
          | true =>
            go_wp2_with fail
            refine (r4weight_any G hmay.out _ a1 n1 d1 a2 n2 d2 a3 n3 d3 ((HS.out.now).2.2.2.2.2.2.1) (by omega) (by omega) aw lw cw ws HWL.out ((HS.out.now).2.2.2.1) (by omega)).mono ?_
            rintro e wq12 ⟨rfl, hmm⟩
            replace HS := Lib.hid (HS.out.step hmm)
            clear hmm
            clear qbg_0 qbg_1 qbg_2 lbg
            have hbbg := (HS.out.now).2.2.2.2.1
            have qbg_0 := hbbg.cell 0 rfl
            have qbg_1 := hbbg.cell 1 rfl
            have qbg_2 := hbbg.cell 2 rfl
            have lbg := hbbg.lt
            clear hbbg
            unfold wtN
            rw [HED.out.1]
            simp only [if_true]
            go_wp2_with fail
            refine (r4weight_any G hmay.out _ a1 n1 d1 a2 n2 d2 a3 n3 d3 ((HS.out.now).2.2.2.2.2.2.1) (by omega) (by omega) ax lx cx xs HXL.out ((HS.out.now).1) (by omega)).mono ?_
            rintro e wq13 ⟨rfl, hmm⟩
            replace HS := Lib.hid (HS.out.step hmm)
            clear hmm
            clear qbg_0 qbg_1 qbg_2 lbg
            have hbbg := (HS.out.now).2.2.2.2.1
            have qbg_0 := hbbg.cell 0 rfl
            have qbg_1 := hbbg.cell 1 rfl
            have qbg_2 := hbbg.cell 2 rfl
            have lbg := hbbg.lt
            clear hbbg
            unfold wtN
            rw [HEX.out.1]
            simp only [if_true]
            obtain ⟨nw, hnw⟩ : ∃ x, wS G ws = x := ⟨_, rfl⟩
            obtain ⟨nx, hnx⟩ : ∃ x, wS G xs = x := ⟨_, rfl⟩
            have hb3 := HB3.out (by first | trivial | rfl) (by first | trivial | rfl)
            rw [hnw, hnx] at hb3 ⊢
            have HB4 := Lib.hid hb3
            clear hnw hnx hb3
            cases is with
            | false =>
              go_wp2_with fail
              refine (awake12_any _).mono ?_
              rintro e wq14 ⟨rfl, hmz⟩
              replace HS := Lib.hid (HS.out.step hmz)
              clear hmz
              clear qbg_0 qbg_1 qbg_2 lbg
              have hbbg := (HS.out.now).2.2.2.2.1
              have qbg_0 := hbbg.cell 0 rfl
              have qbg_1 := hbbg.cell 1 rfl
              have qbg_2 := hbbg.cell 2 rfl
              have lbg := hbbg.lt
              clear hbbg
              go_wp2_with fail
              go_ret
              exact ⟨rfl, (HS.out.now).2.2.2.2.2.2.2.2.2⟩
            | true =>
              have hb4 := HB4.out (by first | trivial | rfl)
              have z1 : decide (nw ≤ nx) = true := by simpa using hb4.1
              have hne : cmpL xs ws ≠ 0 := fun h => hb4.2 ((cmpL_eq _ _).1 h)
              have z2 : (cmpL xs ws != 0) = true := by simpa using hne
              have z3 : (cmpL xs ws == 0) = false := by simpa using hne
              obtain ⟨cv, hcv⟩ : ∃ x, cmpL xs ws = x := ⟨_, rfl⟩
              rw [hcv] at z2 z3
              have HCV := Lib.hid hcv
              clear hb4 hne hcv
              go_wp2_with fail
              refine (r4cmp_any _ ax lx cx xs HXL.out ((HS.out.now).1) (by omega) aw lw cw ws HWL.out ((HS.out.now).2.2.2.1) (by omega)).mono ?_
              rintro e wq15 ⟨rfl, hmm⟩
              replace HS := Lib.hid (HS.out.step hmm)
              clear hmm
              clear qbg_0 qbg_1 qbg_2 lbg
              have hbbg := (HS.out.now).2.2.2.2.1
              have qbg_0 := hbbg.cell 0 rfl
              have qbg_1 := hbbg.cell 1 rfl
              have qbg_2 := hbbg.cell 2 rfl
              have lbg := hbbg.lt
              clear hbbg
              rw [HCV.out]
              go_wp2_with fail
              refine (awake12_any _).mono ?_
              rintro e wq16 ⟨rfl, hmz⟩
              replace HS := Lib.hid (HS.out.step hmz)
              clear hmz
              clear qbg_0 qbg_1 qbg_2 lbg
              have hbbg := (HS.out.now).2.2.2.2.1
              have qbg_0 := hbbg.cell 0 rfl
              have qbg_1 := hbbg.cell 1 rfl
              have qbg_2 := hbbg.cell 2 rfl
              have lbg := hbbg.lt
              clear hbbg
              go_wp2_with fail
              go_ret
              exact ⟨rfl, (HS.out.now).2.2.2.2.2.2.2.2.2⟩
theorem lshut_law (w : World) (a0 : Option Addr) (m c0 : Nat) (l : List Int) (ok : (encSlice (encInt .i64)).ok w (.slice a0 m c0, l)) (ev : Int) (_ : (Lit.int .i64 ev).wf = true) (nv : Int) (_ : (Lit.int .i64 nv).wf = true) (a4 : Option Addr) (n4 d4 : Nat) (sh : List Int) (ok4 : (encSlice (encInt .i64)).ok w (.slice a4 n4 d4, sh)) :
    Calls Try.prog 10 #[.slice a0 m c0, .int .i64 ev, .int .i64 nv, .slice a4 n4 d4] w fun e w' => e = .returned (.bool true) ∧ Below w.heap.size w w' := by
  obtain ⟨hn, hr, _⟩ := ok_ints ok
  obtain ⟨hn4, hr4, _⟩ := ok_ints ok4
  exact (lshut_all w a0 m c0 l hn hr ev nv a4 n4 d4 sh hn4 hr4).mono fun e w' h => ⟨h.1, h.2.below (Nat.le_refl _) (fun _ e => e.elim)⟩
end Go.Proofs.Ytgiojfihgdifbaa
