/- The document's own net: Put, by contract. -/
import Derived.Test.YtjjedebjbgpimaaGreatKRN
import Derived.Test.YtjjedebjbgpimaaGreatRowT
import Derived.Test.YtjjedebjbgpimaaGreatKReg
namespace Mile
open Go Go.RowKit
theorem eqN_len {L : List Ar} (h : SortN L) (a : Ar) : (eqN L a).length ≤ 1 := by
  rw [show eqN L a = eqR (outL L a.f) a.t from by
    unfold eqN eqR outL
    rw [List.filter_filter]
    refine congrArg (fun p => List.filter p L) (funext fun b => ?_)
    by_cases c : b.f = a.f <;> by_cases d : b.t = a.t <;> simp [c, d]]
  exact eqR_len (outL_rise h _) _
theorem newN_insert {L : List Ar} (h : SortN L) {a : Ar} (he : eqN L a = []) : L.take (ltN L a).length ++ a :: L.drop (ltN L a).length = newN L a := by
  have h1 := split3 h a
  rw [he, List.nil_append] at h1
  have h2 : L.take (ltN L a).length = ltN L a := by
    have h4 : (ltN L a ++ gtN L a).take (ltN L a).length = ltN L a := by rw [List.take_append_of_le_length (Nat.le_refl _), List.take_length]
    rwa [← h1] at h4
  have h3 : L.drop (ltN L a).length = gtN L a := by
    have h4 : (ltN L a ++ gtN L a).drop (ltN L a).length = gtN L a := by rw [List.drop_append_of_le_length (Nat.le_refl _), List.drop_length, List.nil_append]
    rwa [← h1] at h4
  rw [h2, h3]; rfl
theorem eqN_one {L : List Ar} (h : SortN L) {a : Ar} (he : eqN L a ≠ []) : ∃ b, eqN L a = [b] ∧ (ltN L a).length < L.length ∧ L[(ltN L a).length]? = some b ∧ L.set (ltN L a).length a = newN L a := by
  have h0 := eqN_len h a
  match hq : eqN L a, he, h0 with
  | [], he, _ => exact absurd rfl he
  | [b], _, _ =>
    have h1 := split3 h a
    rw [hq] at h1
    have e1 : (ltN L a).length < L.length := by
      have := congrArg List.length h1
      simp only [List.length_append, List.length_cons, List.length_nil] at this
      omega
    refine ⟨b, rfl, e1, ?_, ?_⟩
    · have h2 : (ltN L a ++ ([b] ++ gtN L a))[(ltN L a).length]? = some b := by rw [List.getElem?_append_right (Nat.le_refl _), Nat.sub_self]; rfl
      rwa [← h1] at h2
    · have h2 : (ltN L a ++ ([b] ++ gtN L a)).set (ltN L a).length a = newN L a := by rw [List.set_append_right _ _ (Nat.le_refl _), Nat.sub_self]; rfl
      rwa [← h1] at h2
  | _ :: _ :: _, _, h0 => simp at h0
end Mile
namespace Mile
open Go Go.RowKit
theorem new_row {w w7 : World} {T : TypeId} {size n : Nat} {v7 : Value} {xs : List Value} (hap : Appended (w.alloc (.cells #[] T)) w7 T size (.slice (some ⟨w.heap.size, 0, none⟩) 0 0) v7 n xs) : (∀ k, v7.ownBlock = some k → w.heap.size ≤ k) ∧ Mod (fun _ => False) w w7 :=
  ⟨fun k hk => by
    rcases hap.row k hk with h | h
    · have e : w.heap.size = k := Option.some.inj h
      omega
    · have e : (w.alloc (.cells #[] T)).heap.size = w.heap.size + 1 := by simp
      omega, (Mod.alloc _ w _).trans hap.mod (fun _ _ e => e) (fun i hi e => by have e2 : w.heap.size = i := Option.some.inj e; omega)⟩
theorem own_some {w : World} {B s n c : Nat} {T : TypeId} {a : Option Addr} {xs : List Value} (h : w.ownsRow B T s (.slice a n c) n xs) (hn : 0 < n) : ∃ gr, a = some ⟨gr, 0, none⟩ := by
  obtain ⟨_, h | ⟨g2, cap, cur, he, _⟩⟩ := h
  · cases h.2; omega
  · injection he with h1 _ _; exact ⟨g2, h1⟩
theorem new_row2 {w w7 : World} {T : TypeId} {size n : Nat} {v7 : Value} {xs : List Value} (hap : Appended (w.alloc (.cells #[] T)) w7 T size (.slice (some ⟨w.heap.size, 0, none⟩) 0 0) v7 (0 + n) ([] ++ xs)) (hn : 0 < n) : ∃ gr c7, v7 = .slice (some ⟨gr, 0, none⟩) n c7 ∧ w.heap.size ≤ gr ∧ w7.ownsRow 0 T size (.slice (some ⟨gr, 0, none⟩) n c7) n xs ∧ Mod (fun _ => False) w w7 := by
  obtain ⟨h1, h2⟩ := new_row hap
  obtain ⟨a7, c7, hf⟩ := hap.form
  have ho := hap.own
  simp only [Nat.zero_add, List.nil_append] at ho hf
  subst hf
  obtain ⟨gr, rfl⟩ := own_some ho hn
  exact ⟨gr, c7, rfl, h1 gr rfl, ho, h2⟩
end Mile
namespace Go.Proofs.YtjjedebjbgpimaaGreat
open Go.RowKit Mile
set_option maxRecDepth 100000
def rp_r10_0_F (q : Nat) (ln : Nat) (ps : Nat) (B0 : Nat) (c : Nat) (f : Int) (t : Int) (v : Int) (m : Int) (a : Option Addr) (L : List Ar) : List FactP :=
  [(true, fun _ => IsV (.pointer (some ⟨q, 0, none⟩))),
   (false, fun _ => EmpT 50 4 B0),
   (true, fun _ => IsV (.pointer (some ⟨q, 0, none⟩))),
   (true, fun _ => IsV (.pointer (some ⟨q, 0, none⟩))),
   (true, fun _ => IsV (.pointer (some ⟨q, 1, none⟩))),
   (true, fun _ => IsV (.slice a ln c)),
   (true, fun _ => IsV (.int .i64 (ps : Int))),
   (true, fun _ => IsV (.slice a ps c)),
   (false, fun _ => OwnT 50 4 B0 (ps) ((L.take ps).flatMap c4)),
   (true, fun _ => IsV (.agg #[.int .i64 f, .int .i64 t, .int .i64 v, .int .i64 m])),
   (false, fun _ => LitT 4 [.int .i64 f, .int .i64 t, .int .i64 v, .int .i64 m]),
   (false, fun _ => OwnT 50 4 B0 (ps + 1) ((L.take ps).flatMap c4 ++ [.int .i64 f, .int .i64 t, .int .i64 v, .int .i64 m])),
   (true, fun _ => IsV (.pointer (some ⟨q, 0, none⟩))),
   (true, fun _ => IsV (.pointer (some ⟨q, 0, none⟩))),
   (true, fun _ => IsV (.pointer (some ⟨q, 1, none⟩))),
   (true, fun _ => IsV (.slice a ln c)),
   (true, fun _ => IsV (.int .i64 (ps : Int))),
   (true, fun _ => IsV (.slice (dropA a c ps 4) (ln - ps) (c - ps))),
   (false, fun _ => OwnT 50 4 B0 (ps + 1 + (ln - ps)) ((L.take ps).flatMap c4 ++ [.int .i64 f, .int .i64 t, .int .i64 v, .int .i64 m] ++ (L.drop ps).flatMap c4)),
   (true, fun _ => IsV (.pointer (some ⟨q, 0, none⟩))),
   (true, fun _ => IsV (.pointer (some ⟨q, 1, none⟩)))]
def rp_r10_0_D : List (List Nat) := [[], [], [], [2], [3], [4], [], [5, 6], [1, 7], [], [9], [8, 10], [], [12], [13], [14], [], [15, 16], [11, 17], [0], [19]]
def rp_r10_0_C : List Nat := [1000, 8, 1000, 1000, 1000, 1000, 1000, 1000, 11, 1000, 11, 18, 1000, 1000, 1000, 1000, 1000, 1000, 1000, 1000, 1000]

set_option maxHeartbeats 16000000 in
theorem rn_putG {w : World} {q n : Nat} {L : List Ar} {G : Nat → Prop} (h : RNG w q n L G) (hok : NetOk n L) (hn : n ≤ 512) (hb : L.length ≤ 10000) (f t v m : Int) : Calls Tryz.prog 84 #[.pointer (some ⟨q, 0, none⟩), .agg #[.int .i64 f, .int .i64 t, .int .i64 v, .int .i64 m]] w fun e w' => e = .returned (.bool (putOk n L ⟨f, t, v, m⟩)) ∧ RNG w' q n (putR n L ⟨f, t, v, m⟩) (fun k => G k ∨ (w.heap.size ≤ k ∧ k < w'.heap.size)) ∧ Mod (fun k => k = q) w w' := by
  obtain ⟨a, c, hbk, hrd, hnq⟩ := h
  obtain ⟨iA, hiA, hzA, hsA, hbA⟩ := info_parts Nt.infoA
  obtain ⟨g, hg⟩ : ∃ y, w.heap.size = y := ⟨_, rfl⟩
  obtain ⟨w1, hwA⟩ : ∃ y, w.alloc (.cells #[.int .i64 f, .int .i64 t, .int .i64 v, .int .i64 m] 50) = y := ⟨_, rfl⟩
  have hgA : Blk w1 g 50 [.int .i64 f, .int .i64 t, .int .i64 v, .int .i64 m] := by rw [← hwA, ← hg]; exact Blk.new w 50 [.int .i64 f, .int .i64 t, .int .i64 v, .int .i64 m]
  have hmA : Mod (fun _ => False) w w1 := by rw [← hwA]; exact Mod.alloc _ _ _
  have hgq : g ≠ q := fun e => by have := hbk.lt; omega
  have hb1 := hbk.keep hmA (fun e => e)
  have hr1 := hrd.keep hmA (fun _ _ e => e)
  have hrn1 : RN w1 q n L := ⟨a, c, hb1, hr1, fun k hk => (hnq k hk).1⟩
  have hrg1 : RNG w1 q n L G := ⟨a, c, hb1, hr1, hnq⟩
  have HG := Lib.hid hgA
  have HMA := Lib.hid hmA
  have HB := Lib.hid hb1
  have HR := Lib.hid hr1
  have HRN := Lib.hid hrg1
  clear hrg1
  have HNQ := Lib.hid hnq
  have HOK := Lib.hid hok
  have HGQ := Lib.hid hgq
  by_cases hmay : mayA n ⟨f, t, v, m⟩
  case neg =>
    have HMY := Lib.hid (rn_may hb1 hn f t v m false (decide_eq_false hmay))
    have hpo : putOk n L ⟨f, t, v, m⟩ = false := by unfold putOk; rw [decide_eq_false hmay]; rfl
    have hpr : putR n L ⟨f, t, v, m⟩ = L := if_neg hmay
    rw [hpo, hpr]
    have g0 := hgA.cell 0 rfl
    have g1 := hgA.cell 1 rfl
    have g2 := hgA.cell 2 rfl
    have g3 := hgA.cell 3 rfl
    clear hmay hpo hpr hok hbk hrd hnq hgA hmA hb1 hr1 hrn1 hgq
    go_enter Tryz.func84, Tryz.ntmps84
    go_upto_region 1 with fail
    (try rw [hwA])
    (try rw [hg])
    clear hwA hg
    go_wp2_with fail
    refine HMY.out.mono ?_
    rintro e w2 ⟨rfl, hm2⟩
    have HM2 := Lib.hid hm2
    clear hm2 g0 g1 g2 g3
    go_wp2_with fail
    go_ret
    exact ⟨rfl, (HRN.out.later HM2.out).mono (fun _ h => .inl h), ((HMA.out.of2 HM2.out)).mono (fun _ _ e => e.elim)⟩
  case pos =>
    have HMY := Lib.hid (rn_may hb1 hn f t v m true (decide_eq_true hmay))
    have HFI := Lib.hid (fun (W : World) (mm : Mod (fun _ => False) w1 W) => rn_find (hrn1.later mm) hok.sort (by omega) f t)
    have hpo : putOk n L ⟨f, t, v, m⟩ = putB L ⟨f, t, v, m⟩ := by unfold putOk; rw [decide_eq_true hmay]; rfl
    have hpr : putR n L ⟨f, t, v, m⟩ = putN L ⟨f, t, v, m⟩ := if_pos hmay
    rw [hpo, hpr]
    have hins := fun he => newN_insert hok.sort (a := ⟨f, t, v, m⟩) he
    have hone := fun he => eqN_one hok.sort (a := ⟨f, t, v, m⟩) he
    have hpe : posN L ⟨f, t, 0, 0⟩ = (ltN L ⟨f, t, v, m⟩).length := rfl
    have hpl : (ltN L ⟨f, t, v, m⟩).length ≤ L.length := List.length_filter_le _ _
    obtain ⟨ps, hps⟩ : ∃ x, (ltN L ⟨f, t, v, m⟩).length = x := ⟨_, rfl⟩
    obtain ⟨ln, hln⟩ : ∃ x, L.length = x := ⟨_, rfl⟩
    have hie : isN L ⟨f, t, 0, 0⟩ = decide (eqN L ⟨f, t, v, m⟩ ≠ []) := rfl
    rw [hps] at hins hone hpl
    rw [hln] at hpl hb
    rw [hpe, hps, hie] at HFI
    have HLN := Lib.hid hln
    have HPS := Lib.hid hps
    have g0 := hgA.cell 0 rfl
    have g1 := hgA.cell 1 rfl
    have g2 := hgA.cell 2 rfl
    have g3 := hgA.cell 3 rfl
    by_cases he : eqN L ⟨f, t, v, m⟩ = []
    · skip
      have hpb : putB L ⟨f, t, v, m⟩ = true := by unfold putB; rw [he]; rfl
      have hpn : putN L ⟨f, t, v, m⟩ = newN L ⟨f, t, v, m⟩ := by unfold putN; rw [if_pos hpb]
      rw [hpb, hpn]
      have HINS := Lib.hid (hins he)
      rw [show decide (eqN L ⟨f, t, v, m⟩ ≠ []) = false from decide_eq_false (fun h => h he)] at HFI
      clear hmay hpo hpr hok hbk hrd hnq hgA hmA hb1 hr1 hrn1 hgq hins hone hpe hps hln hie he hpb hpn
      go_enter Tryz.func84, Tryz.ntmps84
      go_upto_region 1 with fail
      (try rw [hwA])
      (try rw [hg])
      clear hwA hg
      go_wp2_with fail
      refine HMY.out.mono ?_
      rintro e w2 ⟨rfl, hm2⟩
      have HM2 := Lib.hid hm2
      have hg2 := HG.out.keep hm2 (fun e => e)
      clear hm2 g0 g1 g2 g3
      have g0 := hg2.cell 0 rfl
      have g1 := hg2.cell 1 rfl
      clear hg2
      go_wp2_with fail
      refine (HFI.out _ HM2.out).mono ?_
      rintro e w3 ⟨rfl, hm3⟩
      have HM3 := Lib.hid (HM2.out.of2 hm3)
      have hg3 := HG.out.keep HM3.out (fun e => e)
      have hb3 := HB.out.keep HM3.out (fun e => e)
      have hr3 := HR.out.keep HM3.out (fun _ _ e => e)
      rw [HLN.out] at hb3 hr3
      have hrt := hr3.take (n := ps) hpl
      have hrp := hr3.drop (n := ps) hpl
      rw [c4_take] at hrt
      rw [c4_drop] at hrp
      have HS : Hid (Ev (Mod (fun _ => False) w3) w3) := Lib.hid (Ev.mod w3)
      replace HS := Lib.hid ((Ev.blk hg3).and HS.out)
      replace HS := Lib.hid ((Ev.blk hb3).and HS.out)
      replace HS := Lib.hid ((Ev.rd hrt).and HS.out)
      replace HS := Lib.hid ((Ev.rd hrp).and HS.out)
      have hcl : ln ≤ c := by obtain ⟨_, _, _, h1, h2, _⟩ := hr3; rename_i x1 x2; cases h1; exact h2
      have HTK := Lib.hid (fun wx => run_takeS (P := Tryz.prog) wx 34 50 iA Tryz.underlying34 hiA a ln c ps (by omega))
      have HDK := Lib.hid (fun wx => run_dropS (P := Tryz.prog) wx 34 50 iA 4 Tryz.underlying34 hiA hsA a ln c ps hpl)
      clear hm3 hg3 hb3 hr3 hrt hrp g0 g1 HFI
      have hbg := (HS.out.now).2.2.2.1
      have qg_0 := hbg.cell 0 rfl
      have qg_1 := hbg.cell 1 rfl
      have qg_2 := hbg.cell 2 rfl
      have qg_3 := hbg.cell 3 rfl
      have lg := hbg.lt
      clear hbg
      have hbq := (HS.out.now).2.2.1
      have qq_0 := hbq.cell 0 rfl
      have qq_1 := hbq.cell 1 rfl
      have lq := hbq.lt
      clear hbq
      go_wp2_with fail
      obtain ⟨B0, hB0⟩ : ∃ n, w3.heap.size = n := ⟨_, rfl⟩
      have HB0 := Lib.hid hB0
      clear hB0
      have HOLD : Hid (∀ W, Mod (fun k => B0 ≤ k) (World.drew w3) W → Mod (fun _ => False) (World.drew w3) W) := Lib.hid fun W h => h.mono (fun i hi e => by have := HB0.out; simp at hi; omega)
      go_upto_region 10 with fail
      clear qg_0 qg_1 qg_2 qg_3 lg qq_0 qq_1 lq
      have HSd := Lib.hid HS.out.drew
      have HST : ∀ (ix : Nat) (vs : Nat → Value) (vx : Value) (wx wy : World), factP (rp_r10_0_F q ln ps B0 c f t v m a L) ix vs vx wx → Mod (fun _ => False) wx wy → factP (rp_r10_0_F q ln ps B0 c f t v m a L) ix vs vx wy := by
        refine factP_stays ?_
        unfold rp_r10_0_F
        exact stableP_cons (StableP.of (stable_val _)) <| stableP_cons (StableP.of (EmpT.st)) <| stableP_cons (StableP.of (stable_val _)) <| stableP_cons (StableP.of (stable_val _)) <| stableP_cons (StableP.of (stable_val _)) <| stableP_cons (StableP.of (stable_val _)) <| stableP_cons (StableP.of (stable_val _)) <| stableP_cons (StableP.of (stable_val _)) <| stableP_cons (StableP.of (OwnT.st)) <| stableP_cons (StableP.of (stable_val _)) <| stableP_cons (StableP.of (LitT.st)) <| stableP_cons (StableP.of (OwnT.st)) <| stableP_cons (StableP.of (stable_val _)) <| stableP_cons (StableP.of (stable_val _)) <| stableP_cons (StableP.of (stable_val _)) <| stableP_cons (StableP.of (stable_val _)) <| stableP_cons (StableP.of (stable_val _)) <| stableP_cons (StableP.of (stable_val _)) <| stableP_cons (StableP.of (OwnT.st)) <| stableP_cons (StableP.of (stable_val _)) <| stableP_cons (StableP.of (stable_val _)) <| stableP_nil
      have HSO : ∀ px ∈ (rp_r10_0_F q ln ps B0 c f t v m a L), px.1 = true → ∀ (vs : Nat → Value) (vx : Value) (wx wy : World), px.2 vs vx wx → px.2 vs vx wy := by
        unfold rp_r10_0_F
        exact solidP_cons (solid_val _) <| solidP_cons (fun h => by cases h) <| solidP_cons (solid_val _) <| solidP_cons (solid_val _) <| solidP_cons (solid_val _) <| solidP_cons (solid_val _) <| solidP_cons (solid_val _) <| solidP_cons (solid_val _) <| solidP_cons (fun h => by cases h) <| solidP_cons (solid_val _) <| solidP_cons (fun h => by cases h) <| solidP_cons (fun h => by cases h) <| solidP_cons (solid_val _) <| solidP_cons (solid_val _) <| solidP_cons (solid_val _) <| solidP_cons (solid_val _) <| solidP_cons (solid_val _) <| solidP_cons (solid_val _) <| solidP_cons (fun h => by cases h) <| solidP_cons (solid_val _) <| solidP_cons (solid_val _) <| solidP_nil
      have HLO : LocL (fun i => rp_r10_0_D.getD i []) 0 (rp_r10_0_F q ln ps B0 c f t v m a L) := by
        unfold rp_r10_0_F
        exact loc_cons (loc_own _) <| loc_cons (loc_own _) <| loc_cons (loc_own _) <| loc_cons (loc_own _) <| loc_cons (loc_own _) <| loc_cons (loc_own _) <| loc_cons (loc_own _) <| loc_cons (loc_own _) <| loc_cons (loc_own _) <| loc_cons (loc_own _) <| loc_cons (loc_own _) <| loc_cons (loc_own _) <| loc_cons (loc_own _) <| loc_cons (loc_own _) <| loc_cons (loc_own _) <| loc_cons (loc_own _) <| loc_cons (loc_own _) <| loc_cons (loc_own _) <| loc_cons (loc_own _) <| loc_cons (loc_own _) <| loc_cons (loc_own _) <| loc_nil
      refine wp_region_pair (act := ?actrp_r10_0) (Mod (fun k => B0 ≤ k)) (factP (rp_r10_0_F q ln ps B0 c f t v m a L)) (fun i => rp_r10_0_C.getD i 1000) (fun i => rp_r10_0_D.getD i []) 21 _ rfl rfl (by kernel_rfl) (by kernel_rfl) (by kernel_rfl) (by kernel_rfl) (by kernel_rfl) (fun _ => Mod.refl _ _)
        (fun _ _ _ h k => h.trans k (fun _ _ e => e) (fun _ _ e => e)) ?hactrp_r10_0 (loc_of HLO) ?_ ?_
      case hactrp_r10_0 => intro vs; simp only [putAll, Nat.zero_add, Nat.reduceAdd, Act.put, List.setIfInBounds_toArray, List.set_cons_succ, List.set_cons_zero]; exact rfl
      · refine opsOkP_cons ?_ ?_
        · intro K vs W hR hD hN hK
          clear hD
          clear hN
          try dsimp only at hK ⊢
          simp only [Act.put, List.setIfInBounds_toArray, List.set_cons_succ, List.set_cons_zero] at hK
          go_wp2
          exact hK _ _ rfl (fun _ _ h => h) (Mod.refl _ _)
        refine opsOkP_cons ?_ ?_
        · intro K vs W hR hD hN hK
          clear hD
          clear hN
          try dsimp only at hK ⊢
          simp only [Act.put, List.setIfInBounds_toArray, List.set_cons_succ, List.set_cons_zero] at hK
          have hz := (show B0 ≤ W.heap.size from (by have h1 := HB0.out; have h2 := hR.size; simp at h2; omega))
          go_wp2
          exact hK _ _ ⟨_, rfl, Own.rebase (own_empty W 50 4 W.heap.size rfl) (low_lit hz)⟩ (fun j _ h => HST j vs _ _ _ h (Mod.alloc _ _ _)) (Mod.alloc _ _ _)
        refine opsOkP_cons ?_ ?_
        · intro K vs W hR hD hN hK
          clear hD
          clear hN
          try dsimp only at hK ⊢
          simp only [Act.put, List.setIfInBounds_toArray, List.set_cons_succ, List.set_cons_zero] at hK
          go_wp2
          exact hK _ _ rfl (fun _ _ h => h) (Mod.refl _ _)
        refine opsOkP_cons ?_ ?_
        · intro K vs W hR hD hN hK
          have dq2 : vs 2 = .pointer (some ⟨q, 0, none⟩) := hD 2 (by decide)
          clear hD
          clear hN
          try dsimp only at hK ⊢
          simp only [Act.put, List.setIfInBounds_toArray, List.set_cons_succ, List.set_cons_zero] at hK
          generalize vs 2 = vq2 at hK dq2 ⊢
          subst vq2
          go_wp2
          exact hK _ _ rfl (fun _ _ h => h) (Mod.refl _ _)
        refine opsOkP_cons ?_ ?_
        · intro K vs W hR hD hN hK
          have dq3 : vs 3 = .pointer (some ⟨q, 0, none⟩) := hD 3 (by decide)
          clear hD
          clear hN
          try dsimp only at hK ⊢
          simp only [Act.put, List.setIfInBounds_toArray, List.set_cons_succ, List.set_cons_zero] at hK
          generalize vs 3 = vq3 at hK dq3 ⊢
          subst vq3
          go_wp2
          exact hK _ _ rfl (fun _ _ h => h) (Mod.refl _ _)
        refine opsOkP_cons ?_ ?_
        · intro K vs W hR hD hN hK
          have dq4 : vs 4 = .pointer (some ⟨q, 1, none⟩) := hD 4 (by decide)
          clear hD
          clear hN
          try dsimp only at hK ⊢
          simp only [Act.put, List.setIfInBounds_toArray, List.set_cons_succ, List.set_cons_zero] at hK
          generalize vs 4 = vq4 at hK dq4 ⊢
          subst vq4
          have q0 := ((HSd.out.at (HOLD.out W hR)).2.2.1).cell 1 rfl
          go_wp2
          exact hK _ _ rfl (fun _ _ h => h) (Mod.refl _ _)
        refine opsOkP_cons ?_ ?_
        · intro K vs W hR hD hN hK
          clear hD
          clear hN
          try dsimp only at hK ⊢
          simp only [Act.put, List.setIfInBounds_toArray, List.set_cons_succ, List.set_cons_zero] at hK
          go_wp2
          exact hK _ _ rfl (fun _ _ h => h) (Mod.refl _ _)
        refine opsOkP_cons ?_ ?_
        · intro K vs W hR hD hN hK
          have dq5 : vs 5 = .slice a ln c := hD 5 (by decide)
          have dq6 : vs 6 = .int .i64 (ps : Int) := hD 6 (by decide)
          clear hD
          clear hN
          try dsimp only at hK ⊢
          simp only [Act.put, List.setIfInBounds_toArray, List.set_cons_succ, List.set_cons_zero] at hK
          generalize vs 5 = vq5 at hK dq5 ⊢
          subst vq5
          generalize vs 6 = vq6 at hK dq6 ⊢
          subst vq6
          have htk := HTK.out
          go_wp2_with fail
          exact hK _ _ rfl (fun _ _ h => h) (Mod.refl _ _)
        refine opsOkP_cons ?_ ?_
        · intro K vs W hR hD hN hK
          have dq1 : (EmpT 50 4 B0) (vs 1) W := hD 1 (by decide)
          have dq7 : vs 7 = .slice a ps c := hD 7 (by decide)
          clear hD
          clear hN
          try dsimp only at hK ⊢
          simp only [Act.put, List.setIfInBounds_toArray, List.set_cons_succ, List.set_cons_zero] at hK
          generalize vs 1 = vq1 at hK dq1 ⊢
          generalize vs 7 = vq7 at hK dq7 ⊢
          subst vq7
          have hz := (show B0 ≤ W.heap.size from (by have h1 := HB0.out; have h2 := hR.size; simp at h2; omega))
          have hrd := (HSd.out.at (HOLD.out W hR)).2.1
          obtain ⟨ae, rfl, ho⟩ := dq1
          go_wp2_with (at_builtin; refine wpList_append_any rfl (.tmp 49) (.tmp 55) 34 rfl 50 iA (.agg #[.int .i64 0, .int .i64 0, .int .i64 0, .int .i64 0]) 4 32 Tryz.underlying34 hiA hzA hsA hbA rfl (by decide) _ (0) ([]) rfl (Own.base ho (Nat.zero_le _)) _ (ps) ((L.take ps).flatMap c4) rfl hrd (c4_one _) (by unfold maxLen; omega) (by omega) ?_; intro v' w' hap)
          obtain ⟨a4, c4, rfl⟩ := hap.form
          have ho4 := hap.own
          have lo4 := hap.low hz (fun k hk => (ho.lt k hk).1)
          have hm4 := hap.still ae 0 0 rfl (by omega)
          simp only [Nat.zero_add, List.nil_append] at ho4 lo4 ⊢
          exact hK _ _ ⟨a4, c4, rfl, Own.rebase ho4 lo4⟩ (fun j _ h => HST j vs _ _ _ h hm4) (hm4.mono (fun _ _ e => e.elim))
        refine opsOkP_cons ?_ ?_
        · intro K vs W hR hD hN hK
          clear hD
          clear hN
          try dsimp only at hK ⊢
          simp only [Act.put, List.setIfInBounds_toArray, List.set_cons_succ, List.set_cons_zero] at hK
          have hbg := (HSd.out.at (HOLD.out W hR)).2.2.2.1
          have q0 := hbg.cell 0 rfl
          have q1 := hbg.cell 1 rfl
          have q2 := hbg.cell 2 rfl
          have q3 := hbg.cell 3 rfl
          go_wp2
          exact hK _ _ rfl (fun _ _ h => h) (Mod.refl _ _)
        refine opsOkP_cons ?_ ?_
        · intro K vs W hR hD hN hK
          have dq9 : vs 9 = .agg #[.int .i64 f, .int .i64 t, .int .i64 v, .int .i64 m] := hD 9 (by decide)
          clear hD
          clear hN
          try dsimp only at hK ⊢
          simp only [Act.put, List.setIfInBounds_toArray, List.set_cons_succ, List.set_cons_zero] at hK
          generalize vs 9 = vq9 at hK dq9 ⊢
          subst vq9
          go_wp2
          exact hK _ _ ⟨_, rfl, by exact Rd.litN _ 4 _ _ _ 1 rfl rfl (by decide)⟩ (fun j _ h => HST j vs _ _ _ h (Mod.alloc _ _ _)) (Mod.alloc _ _ _)
        refine opsOkP_cons ?_ ?_
        · intro K vs W hR hD hN hK
          have dq8 : (OwnT 50 4 B0 (ps) ((L.take ps).flatMap c4)) (vs 8) W := hD 8 (by decide)
          have dq10 : (LitT 4 [.int .i64 f, .int .i64 t, .int .i64 v, .int .i64 m]) (vs 10) W := hD 10 (by decide)
          clear hD
          clear hN
          try dsimp only at hK ⊢
          simp only [Act.put, List.setIfInBounds_toArray, List.set_cons_succ, List.set_cons_zero] at hK
          generalize vs 8 = vq8 at hK dq8 ⊢
          generalize vs 10 = vq10 at hK dq10 ⊢
          have hz := (show B0 ≤ W.heap.size from (by have h1 := HB0.out; have h2 := hR.size; simp at h2; omega))
          obtain ⟨ae, ce, rfl, ho⟩ := dq8
          obtain ⟨pl, rfl, hl⟩ := dq10
          go_wp2_with (at_builtin; refine wpList_append_any rfl (.tmp 56) (.tmp 58) 34 rfl 50 iA (.agg #[.int .i64 0, .int .i64 0, .int .i64 0, .int .i64 0]) 4 32 Tryz.underlying34 hiA hzA hsA hbA rfl (by decide) _ (ps) ((L.take ps).flatMap c4) rfl (Own.base ho (Nat.zero_le _)) _ (1) ([.int .i64 f, .int .i64 t, .int .i64 v, .int .i64 m]) rfl hl (by intro u hu; simp at hu; rcases hu with rfl | rfl | rfl | rfl <;> rfl) (by unfold maxLen; omega) (by omega) ?_; intro v' w' hap)
          obtain ⟨a4, c4, rfl⟩ := hap.form
          have ho4 := hap.own
          have lo4 := hap.low hz (fun k hk => (ho.lt k hk).1)
          exact hK _ _ ⟨a4, c4, rfl, Own.rebase ho4 lo4⟩ (factP_solid HSO [] 11 (by kernel_rfl) (fun _ h => by cases h)) (hap.mod.mono (fun k _ e => (ho.lt k e).1))
        refine opsOkP_cons ?_ ?_
        · intro K vs W hR hD hN hK
          clear hD
          clear hN
          try dsimp only at hK ⊢
          simp only [Act.put, List.setIfInBounds_toArray, List.set_cons_succ, List.set_cons_zero] at hK
          go_wp2
          exact hK _ _ rfl (fun _ _ h => h) (Mod.refl _ _)
        refine opsOkP_cons ?_ ?_
        · intro K vs W hR hD hN hK
          have dq12 : vs 12 = .pointer (some ⟨q, 0, none⟩) := hD 12 (by decide)
          clear hD
          clear hN
          try dsimp only at hK ⊢
          simp only [Act.put, List.setIfInBounds_toArray, List.set_cons_succ, List.set_cons_zero] at hK
          generalize vs 12 = vq12 at hK dq12 ⊢
          subst vq12
          go_wp2
          exact hK _ _ rfl (fun _ _ h => h) (Mod.refl _ _)
        refine opsOkP_cons ?_ ?_
        · intro K vs W hR hD hN hK
          have dq13 : vs 13 = .pointer (some ⟨q, 0, none⟩) := hD 13 (by decide)
          clear hD
          clear hN
          try dsimp only at hK ⊢
          simp only [Act.put, List.setIfInBounds_toArray, List.set_cons_succ, List.set_cons_zero] at hK
          generalize vs 13 = vq13 at hK dq13 ⊢
          subst vq13
          go_wp2
          exact hK _ _ rfl (fun _ _ h => h) (Mod.refl _ _)
        refine opsOkP_cons ?_ ?_
        · intro K vs W hR hD hN hK
          have dq14 : vs 14 = .pointer (some ⟨q, 1, none⟩) := hD 14 (by decide)
          clear hD
          clear hN
          try dsimp only at hK ⊢
          simp only [Act.put, List.setIfInBounds_toArray, List.set_cons_succ, List.set_cons_zero] at hK
          generalize vs 14 = vq14 at hK dq14 ⊢
          subst vq14
          have q0 := ((HSd.out.at (HOLD.out W hR)).2.2.1).cell 1 rfl
          go_wp2
          exact hK _ _ rfl (fun _ _ h => h) (Mod.refl _ _)
        refine opsOkP_cons ?_ ?_
        · intro K vs W hR hD hN hK
          clear hD
          clear hN
          try dsimp only at hK ⊢
          simp only [Act.put, List.setIfInBounds_toArray, List.set_cons_succ, List.set_cons_zero] at hK
          go_wp2
          exact hK _ _ rfl (fun _ _ h => h) (Mod.refl _ _)
        refine opsOkP_cons ?_ ?_
        · intro K vs W hR hD hN hK
          have dq15 : vs 15 = .slice a ln c := hD 15 (by decide)
          have dq16 : vs 16 = .int .i64 (ps : Int) := hD 16 (by decide)
          clear hD
          clear hN
          try dsimp only at hK ⊢
          simp only [Act.put, List.setIfInBounds_toArray, List.set_cons_succ, List.set_cons_zero] at hK
          generalize vs 15 = vq15 at hK dq15 ⊢
          subst vq15
          generalize vs 16 = vq16 at hK dq16 ⊢
          subst vq16
          have hdk := HDK.out
          go_wp2_with fail
          exact hK _ _ rfl (fun _ _ h => h) (Mod.refl _ _)
        refine opsOkP_cons ?_ ?_
        · intro K vs W hR hD hN hK
          have dq11 : (OwnT 50 4 B0 (ps + 1) ((L.take ps).flatMap c4 ++ [.int .i64 f, .int .i64 t, .int .i64 v, .int .i64 m])) (vs 11) W := hD 11 (by decide)
          have dq17 : vs 17 = .slice (dropA a c ps 4) (ln - ps) (c - ps) := hD 17 (by decide)
          clear hD
          clear hN
          try dsimp only at hK ⊢
          simp only [Act.put, List.setIfInBounds_toArray, List.set_cons_succ, List.set_cons_zero] at hK
          generalize vs 11 = vq11 at hK dq11 ⊢
          generalize vs 17 = vq17 at hK dq17 ⊢
          subst vq17
          have hz := (show B0 ≤ W.heap.size from (by have h1 := HB0.out; have h2 := hR.size; simp at h2; omega))
          have hrd := (HSd.out.at (HOLD.out W hR)).1
          obtain ⟨ae, ce, rfl, ho⟩ := dq11
          go_wp2_with (at_builtin; refine wpList_append_any rfl (.tmp 59) (.tmp 65) 34 rfl 50 iA (.agg #[.int .i64 0, .int .i64 0, .int .i64 0, .int .i64 0]) 4 32 Tryz.underlying34 hiA hzA hsA hbA rfl (by decide) _ (ps + 1) ((L.take ps).flatMap c4 ++ [.int .i64 f, .int .i64 t, .int .i64 v, .int .i64 m]) rfl (Own.base ho (Nat.zero_le _)) _ ((ln - ps)) ((L.drop ps).flatMap c4) rfl hrd (c4_one _) (by unfold maxLen; omega) (by omega) ?_; intro v' w' hap)
          obtain ⟨a4, c4, rfl⟩ := hap.form
          have ho4 := hap.own
          have lo4 := hap.low hz (fun k hk => (ho.lt k hk).1)
          exact hK _ _ ⟨a4, c4, rfl, Own.rebase ho4 lo4⟩ (factP_solid HSO [] 18 (by kernel_rfl) (fun _ h => by cases h)) (hap.mod.mono (fun k _ e => (ho.lt k e).1))
        refine opsOkP_cons ?_ ?_
        · intro K vs W hR hD hN hK
          have dq0 : vs 0 = .pointer (some ⟨q, 0, none⟩) := hD 0 (by decide)
          clear hD
          clear hN
          try dsimp only at hK ⊢
          simp only [Act.put, List.setIfInBounds_toArray, List.set_cons_succ, List.set_cons_zero] at hK
          generalize vs 0 = vq0 at hK dq0 ⊢
          subst vq0
          go_wp2
          exact hK _ _ rfl (fun _ _ h => h) (Mod.refl _ _)
        refine opsOkP_cons ?_ ?_
        · intro K vs W hR hD hN hK
          have dq19 : vs 19 = .pointer (some ⟨q, 0, none⟩) := hD 19 (by decide)
          clear hD
          clear hN
          try dsimp only at hK ⊢
          simp only [Act.put, List.setIfInBounds_toArray, List.set_cons_succ, List.set_cons_zero] at hK
          generalize vs 19 = vq19 at hK dq19 ⊢
          subst vq19
          go_wp2
          exact hK _ _ rfl (fun _ _ h => h) (Mod.refl _ _)
        exact opsOkP_nil
      · intro vs wq1 hR hF
        have dq18 : (OwnT 50 4 B0 (ps + 1 + (ln - ps)) ((L.take ps).flatMap c4 ++ [.int .i64 f, .int .i64 t, .int .i64 v, .int .i64 m] ++ (L.drop ps).flatMap c4)) (vs 18) wq1 := hF 18 (by decide) (by decide)
        have dq20 : vs 20 = .pointer (some ⟨q, 1, none⟩) := hF 20 (by decide) (by decide)
        clear hF
        try dsimp only
        generalize vs 18 = vq18 at dq18 ⊢
        generalize vs 20 = vq20 at dq20 ⊢
        subst vq20
        have hmw : Mod (fun _ => False) w3 wq1 := (Mod.drew _ _).of2 (HOLD.out _ hR)
        replace HS := Lib.hid (HS.out.step hmw)
        clear hmw HSd
        obtain ⟨av, cv, rfl, ho⟩ := dq18
        have HO := Lib.hid ho
        clear ho
        have hbq := (HS.out.now).2.2.1
        have f1 := hbq.free 1
        have c1 := hbq.cell 1 rfl
        have HBQ := Lib.hid hbq
        clear hbq
        go_wp2_with fail
        go_ret
        have hfin : ((L.take ps).flatMap c4 ++ [.int .i64 f, .int .i64 t, .int .i64 v, .int .i64 m]) ++ (L.drop ps).flatMap c4 = (newN L ⟨f, t, v, m⟩).flatMap c4 := by rw [← HINS.out, List.flatMap_append, List.flatMap_cons, List.append_assoc]; rfl
        have hlf : (newN L ⟨f, t, v, m⟩).length = ps + 1 + (ln - ps) := by rw [← HINS.out, List.length_append, List.length_cons, List.length_take, List.length_drop, HLN.out]; omega
        have hown := HO.out
        rw [hfin] at hown
        have hqB : q < B0 := by have h1 := HB0.out; have h2 := HM3.out.size; have h3 := HB.out.lt; omega
        have hmm := (HS.out.now).2.2.2.2
        have hset := Mod.setCell (F := fun k => k = q) wq1 ⟨q, 1, none⟩ (.slice av (ps + 1 + (ln - ps)) cv) rfl
        refine ⟨rfl, ⟨av, cv, ?_, ?_, fun k hk => ⟨fun e => ?_, .inr ⟨?_, ?_⟩⟩⟩, ((((HMA.out.of2 HM3.out).of2 hmm).trans hset (fun _ _ e => e.elim) (fun _ _ e => e)))⟩
        · rw [hlf]; exact HBQ.out.set 1 _
        · rw [hlf]; exact (Rd.ofOwn hown).keep hset (fun k hk e => by have := (hown.lt k hk).1; omega)
        · have := (hown.lt k (by rw [← hk]; exact own_slice _ _ _ _ _)).1; omega
        · have := (hown.lt k (by rw [← hk]; exact own_slice _ _ _ _ _)).1; have h1 := HB0.out; have h2 := HM3.out.size; have h4 := HMA.out.size; omega
        · have h1 := (hown.lt k (by rw [← hk]; exact own_slice _ _ _ _ _)).2; have h2 := hset.size; omega
    · skip
      obtain ⟨b, hb1q, hb2q, hb3q, hb4q⟩ := hone he
      rw [show decide (eqN L ⟨f, t, v, m⟩ ≠ []) = true from decide_eq_true he] at HFI
      obtain ⟨bw, hbw⟩ : ∃ x, b.w = x := ⟨_, rfl⟩
      have hpb : putB L ⟨f, t, v, m⟩ = decide (v < bw) := by unfold putB; rw [hb1q]; simp [hbw]
      have HPB := Lib.hid hpb
      have HSET := Lib.hid hb4q
      have HB3 := Lib.hid hb3q
      have HB2 := Lib.hid hb2q
      have HBW := Lib.hid hbw
      clear hb1q hb2q hb3q hb4q hpb hbw
      clear hmay hpo hpr hok hbk hrd hnq hgA hmA hb1 hr1 hrn1 hgq hins hone hpe hps hln hie he
      go_enter Tryz.func84, Tryz.ntmps84
      go_upto_region 1 with fail
      (try rw [hwA])
      (try rw [hg])
      clear hwA hg
      go_wp2_with fail
      refine HMY.out.mono ?_
      rintro e w2 ⟨rfl, hm2⟩
      have HM2 := Lib.hid hm2
      have hg2 := HG.out.keep hm2 (fun e => e)
      clear hm2 g0 g1 g2 g3
      have g0 := hg2.cell 0 rfl
      have g1 := hg2.cell 1 rfl
      clear hg2
      go_wp2_with fail
      refine (HFI.out _ HM2.out).mono ?_
      rintro e w3 ⟨rfl, hm3⟩
      have HM3 := Lib.hid (HM2.out.of2 hm3)
      have hg3 := HG.out.keep HM3.out (fun e => e)
      have hb3 := HB.out.keep HM3.out (fun e => e)
      have hr3 := HR.out.keep HM3.out (fun _ _ e => e)
      rw [HLN.out] at hb3 hr3
      have hln0 : 0 < ln := by have h2 := HB2.out; rw [HLN.out] at h2; omega
      have hpln : ps < ln := by have h2 := HB2.out; rw [HLN.out] at h2; exact h2
      have hpL : ps < L.length := by rw [HLN.out]; exact hpln
      obtain ⟨eb, eo, hpe, e0, e1, e2, e3⟩ := rd4 hr3 ps hpL
      have hbe : L[ps] = b := by have h3 := HB3.out; rw [List.getElem?_eq_getElem hpL] at h3; exact Option.some.inj h3
      rw [hbe, HBW.out] at e2
      have hix := fun wx => run_indexS (P := Tryz.prog) wx 34 50 iA 4 Tryz.underlying34 hiA hsA a ln c ps hpln (hr3.some_ (by omega))
      rw [hpe] at hix
      have c1 := hb3.cell 1 rfl
      have g2 := hg3.cell 2 rfl
      have HB3w := Lib.hid hb3
      have HR3 := Lib.hid hr3
      have HG3 := Lib.hid hg3
      have HIX := Lib.hid hpe
      clear hm3 hg3 hb3 hr3 g0 g1 HFI e0 e1 e3 hpe hbe
      by_cases hw : bw ≤ v
      · skip
        have z0 : decide (bw ≤ v) = true := decide_eq_true hw
        have hpb : putB L ⟨f, t, v, m⟩ = false := by rw [HPB.out]; exact decide_eq_false (by omega)
        have hpn : putN L ⟨f, t, v, m⟩ = L := by unfold putN; rw [hpb]; rfl
        have HPB1 := Lib.hid hpb
        have HPN := Lib.hid hpn
        clear hpb hpn hw
        go_wp2_with fail
        go_quiet (fail)
        go_wp2_with fail
        go_ret
        rw [HPB1.out, HPN.out]
        have hmq := HM3.out.of2 (Mod.drewN (fun _ => False) w3 nq)
        exact ⟨rfl, (HRN.out.later hmq).mono (fun _ h => .inl h), (HMA.out.of2 hmq).mono (fun _ _ e => e.elim)⟩
      · skip
        have z0 : decide (bw ≤ v) = false := decide_eq_false hw
        have hpb : putB L ⟨f, t, v, m⟩ = true := by rw [HPB.out]; exact decide_eq_true (by omega)
        have hpn : putN L ⟨f, t, v, m⟩ = newN L ⟨f, t, v, m⟩ := by unfold putN; rw [if_pos hpb]
        have HPB1 := Lib.hid hpb
        have HPN := Lib.hid hpn
        clear hpb hpn hw
        go_wp2_with fail
        go_quiet (fail)
        obtain ⟨w4, hw4⟩ : ∃ y, World.drewN w3 nq = y := ⟨_, rfl⟩
        have hm4 : Mod (fun _ => False) w3 w4 := by rw [← hw4]; exact Mod.drewN _ _ _
        (try rw [hw4])
        have hb4 := HB3w.out.keep hm4 (fun e => e)
        have hr4 := HR3.out.keep hm4 (fun _ _ e => e)
        have hg4 := HG3.out.keep hm4 (fun e => e)
        clear hw4 c1 g2 e2 hix
        have c1 := hb4.cell 1 rfl
        have hown0 : (w4.alloc (.cells #[] 50)).ownsRow 0 50 4 (.slice (some ⟨w4.heap.size, 0, none⟩) 0 0) 0 [] := World.ownsRow_made w4 #[] 0 (Nat.zero_le _) (Nat.zero_le _) rfl
        have HM4 := Lib.hid (HM3.out.of2 hm4)
        have lq := hb4.lt
        have HB4 := Lib.hid hb4
        have HG4 := Lib.hid hg4
        have hmx1 : 0 + ln ≤ maxLen := by unfold maxLen; omega
        have hmx2 : (0 + ln) * 32 ≤ 140737488355328 := by omega
        clear hb4 hg4 hm4
        go_wp2_with (at_builtin; refine wpList_append_any rfl (.tmp 33) (.tmp 37) 34 rfl 50 iA (.agg #[.int .i64 0, .int .i64 0, .int .i64 0, .int .i64 0]) 4 32 Tryz.underlying34 hiA hzA hsA hbA rfl (by decide) _ 0 [] rfl hown0 _ ln (L.flatMap c4) rfl (hr4.alloc _) (c4_one _) hmx1 hmx2 ?_; intro v7 w7 hap; obtain ⟨gr, c7, rfl, hgr, ho7, hm7⟩ := new_row2 hap hln0; have hgq2 : gr ≠ q := Nat.ne_of_gt (Nat.lt_of_lt_of_le HB4.out.lt hgr); have hb7 := HB4.out.keep hm7 (fun e => e); have f1 := hb7.free 1; have c7q := hb7.cell 1 rfl; have lq7 := hb7.lt; have HB7 := Lib.hid hb7; have HO7 := Lib.hid ho7; have HM7 := Lib.hid hm7; clear hb7 ho7 hm7 c1 hr4 hap hown0)
        go_upto_region 8 with fail
        obtain ⟨w8, hw8⟩ : ∃ y, World.setCell w7 ⟨q, 1, none⟩ (.slice (some ⟨gr, 0, none⟩) ln c7) = y := ⟨_, rfl⟩
        have hm8 : Mod (fun k => k = q) w7 w8 := by rw [← hw8]; exact Mod.setCell _ _ _ rfl
        have hb8 : Blk w8 q 37 [.int .i64 (n : Int), .slice (some ⟨gr, 0, none⟩) ln c7] := by rw [← hw8]; exact HB7.out.set 1 _
        (try rw [hw8])
        have ho8 := Own.keep HO7.out hm8 (fun k hk e => by have e2 : gr = k := Option.some.inj hk; omega)
        have hg8 := (HG4.out.keep HM7.out (fun e => e)).keep hm8 (fun e => HGQ.out e)
        obtain ⟨eb, eo, hpe, e0, e1, e2, e3⟩ := rd4 (Rd.ofOwn ho8) ps hpL
        have hiz := fun wx => run_indexS (P := Tryz.prog) wx 34 50 iA 4 Tryz.underlying34 hiA hsA (some ⟨gr, 0, none⟩) ln c7 ps hpln (by simp)
        rw [elemA_lit4] at hpe hiz
        obtain ⟨rfl, rfl⟩ : gr = eb ∧ ps * 4 = eo := by injection hpe with h1 h2; exact ⟨h1, h2⟩
        have hroom := fun j (hj : j < ln * 4) => Room.ofOwn ho8 j hj
        have f0 := (hroom (ps * 4) (by omega)).free
        have f2 := (hroom (ps * 4 + 1) (by omega)).free
        have f3 := (hroom (ps * 4 + 2) (by omega)).free
        have f4 := (hroom (ps * 4 + 3) (by omega)).free
        have lgr := (hroom (ps * 4) (by omega)).lt
        have yg0 := hg8.cell 0 rfl
        have yg1 := hg8.cell 1 rfl
        have yg2 := hg8.cell 2 rfl
        have yg3 := hg8.cell 3 rfl
        have yq1 := hb8.cell 1 rfl
        have hput := own_put [.int .i64 f, .int .i64 t, .int .i64 v, .int .i64 m] (ps * 4) w8 _ ho8 (by simp; omega)
        have hcs := c4_set L ps hpL ⟨f, t, v, m⟩
        have hput2 : (w8.setCells gr (ps * 4) [.int .i64 f, .int .i64 t, .int .i64 v, .int .i64 m]).ownsRow 0 50 4 (.slice (some ⟨gr, 0, none⟩) ln c7) ln ((L.set ps ⟨f, t, v, m⟩).flatMap c4) := by rw [← hcs]; exact hput
        rw [HSET.out] at hput2
        have HPUT := Lib.hid hput2
        have HB8 := Lib.hid hb8
        have HM8 := Lib.hid hm8
        clear hput hcs hput2 hb8 hm8 hw8 ho8 hg8 hroom hpe c7q f1
        go_region_law (fail)
        all_goals
          (try go_wp2_with fail)
          go_ret
          rw [HPB1.out, HPN.out]
        all_goals
          have hms : Mod (fun k => k = gr) w8 (w8.setCells gr (ps * 4) [.int .i64 f, .int .i64 t, .int .i64 v, .int .i64 m]) := setCells_mod _ _ _
          have hz := Mod.drew (fun _ => False) (w8.setCells gr (ps * 4) [.int .i64 f, .int .i64 t, .int .i64 v, .int .i64 m])
          have hlf : (newN L ⟨f, t, v, m⟩).length = ln := by rw [← HSET.out, List.length_set, HLN.out]
          have hm78 := (HM4.out.of2 HM7.out).trans HM8.out (H := fun k => k = q) (fun _ _ e => e.elim) (fun _ _ e => e)
          have hs4 := (HMA.out.of2 HM4.out).size
          refine ⟨rfl, ⟨some ⟨gr, 0, none⟩, c7, ?_, ?_, fun k hk => ⟨fun e => ?_, .inr ⟨?_, ?_⟩⟩⟩, ((HMA.out.trans hm78 (H := fun k => k = q) (fun _ _ e => e.elim) (fun _ _ e => e)).trans hms (H := fun k => k = q) (fun _ _ e => e) (fun k hk e => by omega)).trans hz (fun _ _ e => e) (fun _ _ e => e.elim)⟩
          · rw [hlf]; exact (HB8.out.keep hms (fun e => hgq2 e.symm)).keep hz (fun e => e)
          · rw [hlf]; exact (Rd.ofOwn HPUT.out).keep hz (fun _ _ e => e)
          · have e2 : gr = k := Option.some.inj hk; omega
          · have e2 : gr = k := Option.some.inj hk; omega
          · exact Nat.lt_of_lt_of_le (HPUT.out.lt k hk).2 hz.size
end Go.Proofs.YtjjedebjbgpimaaGreat
