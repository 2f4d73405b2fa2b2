/- TurnsFree walked. -/
import Derived.Test.YtagmnkobigecnaaAwake7
import Derived.Test.YtagmnkobigecnaaArcs
import Derived.Test.YtagmnkobigecnaaRNext
import Derived.Test.YtagmnkobigecnaaFreeP
import Derived.Test.YtagmnkobigecnaaLawG
import Derived.Test.YtagmnkobigecnaaRound
import Derived.Test.YtagmnkobigecnaaRdT
import Derived.Test.YtagmnkobigecnaaRegion6
import Derived.Deep.DeepCutAuto
import Derived.Deep.CutBlock
namespace Go.Proofs.Ytagmnkobigecnaa
open Go.RowKit Mile
set_option maxRecDepth 100000
def OwnJ (B0 n : Nat) (xs : List Value) : Value → World → Prop := fun v W => ∃ a c, v = .slice a n c ∧ W.ownsRow B0 3 1 v n xs
def EmpJ (B0 : Nat) : Value → World → Prop := fun v W => ∃ a, v = .slice a 0 0 ∧ W.ownsRow B0 3 1 v 0 []
def LitJ (x : Int) : Value → World → Prop := fun v W => ∃ p, v = .slice (some ⟨p, 0, none⟩) 1 1 ∧ Rd W 1 v 1 [.int .i64 x]
theorem OwnJ.st {B0 n : Nat} {xs : List Value} : ∀ v w w', OwnJ B0 n xs v w → Mod (fun _ => False) w w' → OwnJ B0 n xs v w' := fun _ _ _ ⟨a, c, h, o⟩ m => ⟨a, c, h, Own.keep o m (fun _ _ e => e)⟩
theorem EmpJ.st {B0 : Nat} : ∀ v w w', EmpJ B0 v w → Mod (fun _ => False) w w' → EmpJ B0 v w' := fun _ _ _ ⟨a, h, o⟩ m => ⟨a, h, Own.keep o m (fun _ _ e => e)⟩
theorem LitJ.st {x : Int} : ∀ v w w', LitJ x v w → Mod (fun _ => False) w w' → LitJ x v w' := fun _ _ _ ⟨p, h, r⟩ m => ⟨p, h, r.keep m (fun _ _ e => e)⟩

theorem emp_apart {w : World} {B n2 : Nat} {T : TypeId} {a : Option Addr} {v2 : Value} {xs : List Value} {q : Nat} (h : w.ownsRow B T 1 (.slice a 0 0) 0 []) (r : Rd w 1 v2 n2 xs) (hq : (Value.slice a 0 0).ownBlock = some q) (h2 : v2.ownBlock = some q) : xs = [] := by
  rcases h.2 with ⟨e, _⟩ | ⟨g, cap, cur, e, _, hg, _, _, hs, _⟩
  · simp only [Value.slice.injEq, and_true] at e; subst e; cases hq
  · simp only [Value.slice.injEq, true_and] at e
    obtain ⟨rfl, rfl⟩ := e
    obtain rfl : g = q := Option.some.inj hq
    obtain ⟨hl, a2, c2, rfl, h3, h4, h5, h6⟩ := r
    cases a2 with
    | none => cases h2
    | some ad =>
      cases xs with
      | nil => rfl
      | cons x l =>
        have hn : 0 < n2 := by simp at hl; omega
        have hsp := (h6 ad rfl).1 hn
        have hc := (h6 ad rfl).2 0 x rfl
        have hb : ad.block = g := Option.some.inj h2
        obtain ⟨b, o, s⟩ := ad
        simp only at hsp hb
        subst hsp hb
        simp only [Addr.add, Nat.add_zero, if_true] at hc
        rw [cell_of_row w b o cur T (0, 0) hg] at hc
        have : cur.size = 0 := by omega
        simp [this] at hc
def OwnA (B0 n : Nat) (xs : List Value) (k2 : Nat) (ys : List Int) : (Nat → Value) → Value → World → Prop := fun vs v W => OwnJ B0 n xs v W ∧ ∀ q, v.ownBlock = some q → (vs k2).ownBlock = some q → ys = []
theorem OwnA.st {B0 n k2 : Nat} {xs : List Value} {ys : List Int} : StableP (Mod (fun _ => False)) (OwnA B0 n xs k2 ys) := fun _ _ _ _ h m => ⟨OwnJ.st _ _ _ h.1 m, h.2⟩
theorem OwnA.loc {B0 n k2 : Nat} {xs : List Value} {ys : List Int} {D : List Nat} (hk : k2 ∈ D) : ∀ (vs vs' : Nat → Value) v w, (∀ j, j ∈ D → vs j = vs' j) → OwnA B0 n xs k2 ys vs v w → OwnA B0 n xs k2 ys vs' v w := fun _ _ _ _ hj h => ⟨h.1, fun q hq h2 => h.2 q hq (by rw [hj k2 hk]; exact h2)⟩
theorem irow_keep {xs : List Int} {v : Value} {W w' : World} {F : Nat → Prop} (h : IRow xs v W) (hm : Mod F W w') (hF : ∀ q, F q → v.ownBlock = some q → xs = []) : IRow xs v w' := by
  obtain ⟨a, c, hv, hr⟩ := h
  exact ⟨a, c, hv, hr.keepA hm (fun k hk hf => by rw [hF k hf (by rw [hv]; exact hk)]; rfl)⟩
/-- What each operation of the statement leaves. -/
def tf_r11_0_F (a2 : Option Addr) (n2 : Nat) (d2 : Nat) (bg : Nat) (t : Nat) (p : Nat) (ia : Nat) (eb : Nat) (eo : Nat) (GB : GD) (ya : Int) : List (Value → World → Prop) :=
  [IsV (.pointer (some ⟨t, 0, none⟩)),
   IsV (.bool false),
   IsV (.bool false),
   IsV (.pointer (some ⟨t, 0, none⟩)),
   IsV (.int .i64 (ia : Int)),
   (IRow (nxtR GB (ia : Int))),
   IsV (.pointer (some ⟨p, 0, none⟩)),
   IsV (.pointer (some ⟨bg, 1, none⟩)),
   IsV (.slice a2 n2 d2),
   IsV (.int .i64 (ia : Int)),
   IsV (.pointer (some ⟨eb, eo, none⟩)),
   IsV (.pointer (some ⟨eb, eo + 1, none⟩)),
   IsV (.int .i64 ya),
   (IRow (gOut GB ya)),
   IsV (.bool true),
   IsV (.bool false),
   IsV (.bool false)]
def tf_r11_0_D : List (List Nat) := [[], [0], [1], [2], [2], [2, 3, 4], [2], [2], [2, 7], [2], [2, 8, 9], [2, 10], [2, 11], [2, 6, 12], [2, 5, 13], [2, 14], [2, 15]]

/-- What each operation of the statement leaves. -/
def tf_r24_1_F (t : Nat) (t2 : Nat) (ia : Nat) (kk : Nat) (ln : Nat) (GB : GD) (G1 : GD) (an : Option Addr) (cn : Nat) (ns : List Int) (B0 : Nat) : List FactP :=
  [(true, fun _ => IsV (.pointer (some ⟨t2, 0, none⟩))),
   (true, fun _ => IsV (.int .i64 (ia : Int))),
   (false, fun _ => IRow (nxtR G1 (ia : Int))),
   (false, fun _ => EmpJ B0),
   (true, fun _ => IsV (.slice an ln cn)),
   (true, fun _ => IsV (.int .i64 (kk : Int))),
   (true, fun _ => IsV (.slice an kk cn)),
   (false, OwnA B0 kk ((ns.take kk).map (Value.int .i64)) 2 (nxtR G1 (ia : Int))),
   (true, fun _ => IsV (.slice an ln cn)),
   (true, fun _ => IsV (.int .i64 (kk : Int))),
   (true, fun _ => IsV (.int .i64 ((kk : Int) + 1))),
   (true, fun _ => IsV (.slice (dropA an cn (kk + 1) 1) (ln - (kk + 1)) (cn - (kk + 1)))),
   (false, fun _ => OwnJ B0 (kk + (ln - (kk + 1))) ((ns.take kk).map (Value.int .i64) ++ (ns.drop (kk + 1)).map (Value.int .i64))),
   (true, fun _ => IsV (.bool true)),
   (true, fun _ => IsV (.bool true)),
   (true, fun _ => IsV (.pointer (some ⟨t2, 0, none⟩))),
   (false, fun _ => ARow (arcsR G1)),
   (true, fun _ => IsV (.int .i64 (((arcsR G1).length : Int)))),
   (true, fun _ => IsV (.pointer (some ⟨t, 0, none⟩))),
   (false, fun _ => ARow (arcsR GB)),
   (true, fun _ => IsV (.int .i64 (((arcsR GB).length : Int)))),
   (true, fun _ => IsV (.int .i64 (((arcsR GB).length : Int) - 1))),
   (true, fun _ => IsV (.bool true)),
   (true, fun _ => IsV (.bool true)),
   (true, fun _ => IsV (.bool true)),
   (true, fun _ => IsV (.bool true)),
   (true, fun _ => IsV (.bool true))]
def tf_r24_1_D : List (List Nat) := [[], [], [0, 1], [], [], [], [4, 5], [2, 3, 6], [], [], [9], [8, 10], [7, 11], [2, 12], [13], [14], [14, 15], [14, 16], [14], [14, 18], [14, 19], [14, 20], [14, 17, 21], [14, 22], [23], [24], [24, 25]]
def tf_r24_1_C : List Nat := [1000, 1000, 1000, 7, 1000, 1000, 1000, 12, 1000, 1000, 1000, 1000, 1000, 1000, 1000, 1000, 1000, 1000, 1000, 1000, 1000, 1000, 1000, 1000, 1000, 1000, 1000]

set_option maxHeartbeats 64000000 in
theorem tfree_all (w : World) (a0 : Option Addr) (m c0 : Nat) (l : List Int) (hm : l.length = m) (hr : Rd w 1 (.slice a0 m c0) m (l.map (Value.int .i64))) (va vb : Int) :
    Calls Try.prog 3 #[.slice a0 m c0, .int .i64 va, .int .i64 vb] w fun e w' => e = .returned (.bool true) ∧ Mod (fun _ => False) w w' := by
  obtain ⟨iI, hiI, hzI, hsI, hbI⟩ := info_parts GR.infoI
  obtain ⟨iE, hiE, hzE, hsE, hbE⟩ := info_parts GR.infoE
  by_cases hlen0 : m ≤ 100
  case neg =>
    have HS : Hid (Ev (Mod (fun _ => False) w) w) := Lib.hid (Ev.mod w)
    have z0 : decide (100 < (m : Int)) = true := by simp; omega
    have z1 : decide (100 < m) = true := by simp; omega
    go_enter Try.func3, Try.ntmps3
    go_wp2_with fail
    refine (awake7_any _).mono ?_
    rintro e wq1 ⟨rfl, hm⟩
    replace HS := Lib.hid (HS.out.step hm)
    clear hm
    go_wp2_with fail
    go_ret
    exact ⟨rfl, HS.out.now⟩
  have HS : Hid (Ev (Mod (fun _ => False) w) w) := Lib.hid (Ev.mod w)
  have y0 : decide (100 < (m : Int)) = false := by simp; omega
  replace HS := Lib.hid ((Ev.rd hr).and HS.out)
  go_enter Try.func3, Try.ntmps3
  go_wp2_with fail
  refine (town_gv _ a0 m c0 l hm ((HS.out.now).1)).mono ?_
  rintro e wq2 ⟨a1, n1, d1, a2, n2, d2, a3, n3, d3, rfl, hg, hmm⟩
  replace HS := Lib.hid (HS.out.step hmm)
  clear hmm
  have hgb : GV wq2 a1 n1 d1 a2 n2 d2 none 0 0 (noBans (townG l)) := ⟨hg.n, hg.e, rfl, hg.rn, hg.re, Rd.nil _ _⟩
  replace HS := Lib.hid ((Ev.gv hgb).and HS.out)
  clear hg hgb y0
  have hmayT := town_may l
  have hfew := Lib.hid (town_few l)
  obtain ⟨G, hG⟩ : ∃ G, townG l = G := ⟨_, rfl⟩
  rw [hG] at hmayT hfew
  rw [hG] at HS
  clear hG
  have hmay := Lib.hid (may_free hmayT)
  have HMT := Lib.hid hmayT
  clear hmayT
  obtain ⟨GB, hGB⟩ : ∃ x, noBans G = x := ⟨_, rfl⟩
  rw [hGB] at hmay HS
  have HGB := Lib.hid hGB
  clear hGB
  have he := Lib.hid ((HS.out.now).1.e)
  have heG : G.E.length = n2 := by rw [← he.out, ← HGB.out]; rfl
  have h2n : n2 ≤ 67 := by have := hfew.out.2.1.2; omega
  have h2p : 1 ≤ n2 := by have := hfew.out.2.1.1; omega
  have HEG := Lib.hid heG
  clear heG
  go_upto_region 5 with fail
  obtain ⟨bg, hbg⟩ : ∃ b, wq2.heap.size = b := ⟨_, rfl⟩
  obtain ⟨wq3, hwq3⟩ : ∃ W, World.alloc wq2 (.cells #[.slice a1 n1 d1, .slice a2 n2 d2, .slice none 0 0] 28) = W := ⟨_, rfl⟩
  have hBbg : Blk wq3 bg 28 [.slice a1 n1 d1, .slice a2 n2 d2, .slice none 0 0] := by rw [← hwq3, ← hbg]; exact Blk.new _ 28 [.slice a1 n1 d1, .slice a2 n2 d2, .slice none 0 0]
  have hzbg : wq3.heap.size = bg + 1 := by rw [← hwq3, ← hbg]; exact heap_size_alloc _ _
  replace HS := Lib.hid (HS.out.step (w' := wq3) (by rw [← hwq3]; exact Mod.alloc _ _ _))
  replace HS := Lib.hid ((Ev.blk hBbg).and HS.out)
  try rw [hwq3]
  try rw [hbg]
  clear hzbg hBbg hbg hwq3
  have hbbg := (HS.out.now).1
  have qbg_0 := hbbg.cell 0 rfl
  have qbg_1 := hbbg.cell 1 rfl
  have qbg_2 := hbbg.cell 2 rfl
  have lbg := hbbg.lt
  clear hbbg
  go_wp2_with fail
  refine (new_ok GB hmay.out _ a1 n1 d1 a2 n2 d2 none 0 0 ((HS.out.now).2.1)).mono ?_
  rintro e wq4 ⟨p, B, C, rfl, hgo, hmm⟩
  replace HS := Lib.hid (HS.out.step hmm)
  clear hmm
  clear qbg_0 qbg_1 qbg_2 lbg
  have hbbg := (HS.out.now).1
  have qbg_0 := hbbg.cell 0 rfl
  have qbg_1 := hbbg.cell 1 rfl
  have qbg_2 := hbbg.cell 2 rfl
  have lbg := hbbg.lt
  clear hbbg
  replace HS := Lib.hid ((Ev.go hgo).and HS.out)
  clear hgo
  go_wp2_with fail
  refine (tnew_any p B C GB _ ((HS.out.now).1)).mono ?_
  rintro e wq5 ⟨t, rfl, _, hto, hmm⟩
  replace HS := Lib.hid (HS.out.step hmm)
  clear hmm
  clear qbg_0 qbg_1 qbg_2 lbg
  have hbbg := (HS.out.now).2.1
  have qbg_0 := hbbg.cell 0 rfl
  have qbg_1 := hbbg.cell 1 rfl
  have qbg_2 := hbbg.cell 2 rfl
  have lbg := hbbg.lt
  clear hbbg
  replace HS := Lib.hid ((Ev.to hto).and HS.out)
  clear hto
  go_wp2_with fail
  refine (round_any va (n2 : Int) _ (by omega) (by omega)).mono ?_
  rintro e w' ⟨rfl, rfl⟩
  have hr0 := Int.emod_nonneg va (b := (n2 : Int)) (by omega)
  have hr1 := Int.emod_lt_of_pos va (b := (n2 : Int)) (by omega)
  obtain ⟨ia, hr2⟩ := Int.eq_ofNat_of_zero_le hr0
  rw [hr2] at hr1 ⊢
  have hia : ia < n2 := by omega
  clear hr0 hr1 hr2
  go_wp2_with fail
  refine (r4next_any GB _ a1 n1 d1 a2 n2 d2 none 0 0 ((HS.out.now).2.2.2.1) (by omega) (by omega) (ia : Int)).mono ?_
  rintro e wq6 ⟨v', rfl, ⟨an, cn, rfl, hx'⟩, hmm⟩
  replace HS := Lib.hid (HS.out.step hmm)
  clear hmm
  clear qbg_0 qbg_1 qbg_2 lbg
  have hbbg := (HS.out.now).2.2.1
  have qbg_0 := hbbg.cell 0 rfl
  have qbg_1 := hbbg.cell 1 rfl
  have qbg_2 := hbbg.cell 2 rfl
  have lbg := hbbg.lt
  clear hbbg
  replace HS := Lib.hid ((Ev.rd hx').and HS.out)
  clear hx'
  obtain ⟨ns, hns⟩ : ∃ x, nxtR GB (ia : Int) = x := ⟨_, rfl⟩
  have hnl := nxtR_len GB (ia : Int)
  rw [hns] at HS hnl ⊢
  have HNS := Lib.hid hns
  clear hns
  obtain ⟨ln, hln⟩ : ∃ n, ns.length = n := ⟨_, rfl⟩
  rw [hln] at HS hnl ⊢
  have hl1 : ln ≤ 67 := by have := he.out; omega
  have HLN := Lib.hid hln
  clear hln hnl
  have hial : ia < GB.E.length := by rw [he.out]; exact hia
  obtain ⟨xa, Hxa0⟩ : ∃ qz, (GB.E[ia]).1 = qz := ⟨_, rfl⟩
  have Hxa := Lib.hid Hxa0
  clear Hxa0
  obtain ⟨ya, Hya0⟩ : ∃ qz, (GB.E[ia]).2.1 = qz := ⟨_, rfl⟩
  have Hya := Lib.hid Hya0
  clear Hya0
  obtain ⟨za, Hza0⟩ : ∃ qz, (GB.E[ia]).2.2 = qz := ⟨_, rfl⟩
  have Hza := Lib.hid Hza0
  clear Hza0
  obtain ⟨eb, eo, hpl, e0, e1, e2⟩ := rd3 (HS.out.now).2.2.2.2.1.re ia hial
  have hix := fun wx => run_indexS (P := Try.prog) wx 25 41 iE 3 Try.underlying25 hiE hsE a2 n2 d2 ia hia ((HS.out.now).2.2.2.2.1.re.some_ (by have := hia; omega))
  rw [hpl] at hix
  have HIe := Lib.hid hix
  clear hix hpl
  rw [Hxa.out] at e0
  replace HS := Lib.hid ((Ev.cell e0).and HS.out)
  clear e0
  rw [Hya.out] at e1
  replace HS := Lib.hid ((Ev.cell e1).and HS.out)
  clear e1
  rw [Hza.out] at e2
  replace HS := Lib.hid ((Ev.cell e2).and HS.out)
  clear e2
  have HOUT : Hid (gOut GB ya = ns) := Lib.hid (by have h := nxt_free G (by rw [HGB.out]; exact hmay.out) (ia : Int) ⟨by omega, by rw [HEG.out]; omega⟩; rw [HGB.out, HNS.out, eAt_eq GB ia hial, Hya.out] at h; exact h.symm)
  go_upto_region 11 with fail
  clear qbg_0 qbg_1 qbg_2 lbg
  have HSd := Lib.hid HS.out.drew
  refine wp_region_inv3 (act := ?acttf_r11_0) (Mod (fun _ => False)) (fun i => (tf_r11_0_F a2 n2 d2 bg t p ia eb eo GB ya).getD i (fun _ _ => True)) (fun i => tf_r11_0_D.getD i []) (by kernel_rfl) (by kernel_rfl) (by kernel_rfl) (by kernel_rfl) (fun _ => Mod.refl _ _)
    (fun _ _ _ h k => h.trans k (fun _ _ e => e) (fun _ _ e => e)) ?hacttf_r11_0 (stable_list ?_) ?_ ?_
  case hacttf_r11_0 => intro vs; simp only [putAll, Nat.zero_add, Nat.reduceAdd, Act.put, List.setIfInBounds_toArray, List.set_cons_succ, List.set_cons_zero]; exact rfl
  · unfold tf_r11_0_F
    exact stable_cons (stable_val _) <| stable_cons (stable_val _) <| stable_cons (stable_val _) <| stable_cons (stable_val _) <| stable_cons (stable_val _) <| stable_cons (IRow.st _) <| stable_cons (stable_val _) <| stable_cons (stable_val _) <| stable_cons (stable_val _) <| stable_cons (stable_val _) <| stable_cons (stable_val _) <| stable_cons (stable_val _) <| stable_cons (stable_val _) <| stable_cons (IRow.st _) <| stable_cons (stable_val _) <| stable_cons (stable_val _) <| stable_cons (stable_val _) <| stable_nil
  · refine opsOkA_cons ?_ ?_
    · intro K vs W hR hD hK
      clear hD
      try dsimp only at hK ⊢
      simp only [Act.put, List.setIfInBounds_toArray, List.set_cons_succ, List.set_cons_zero] at hK
      go_wp2
      exact hK _ _ rfl (Mod.refl _ _)
    refine opsOkA_cons ?_ ?_
    · intro K vs W hR hD hK
      have dq0 : vs 0 = .pointer (some ⟨t, 0, none⟩) := hD 0 (by decide)
      clear hD
      try dsimp only at hK ⊢
      simp only [Act.put, List.setIfInBounds_toArray, List.set_cons_succ, List.set_cons_zero] at hK
      generalize vs 0 = vq0 at hK dq0 ⊢
      subst vq0
      go_wp2
      exact hK _ _ rfl (Mod.refl _ _)
    refine opsOkA_cons ?_ ?_
    · intro K vs W hR hD hK
      have dq1 : vs 1 = .bool false := hD 1 (by decide)
      clear hD
      try dsimp only at hK ⊢
      simp only [Act.put, List.setIfInBounds_toArray, List.set_cons_succ, List.set_cons_zero] at hK
      generalize vs 1 = vq1 at hK dq1 ⊢
      subst vq1
      go_wp2
      exact hK _ _ rfl (Mod.refl _ _)
    refine opsOkA_cons ?_ ?_
    · intro K vs W hR hD hK
      have dq2 : vs 2 = .bool false := hD 2 (by decide)
      clear hD
      try dsimp only at hK ⊢
      simp only [Act.put, List.setIfInBounds_toArray, List.set_cons_succ, List.set_cons_zero] at hK
      generalize vs 2 = vq2 at hK dq2 ⊢
      subst vq2
      go_wp2
      exact hK _ _ rfl (Mod.refl _ _)
    refine opsOkA_cons ?_ ?_
    · intro K vs W hR hD hK
      have dq2 : vs 2 = .bool false := hD 2 (by decide)
      clear hD
      try dsimp only at hK ⊢
      simp only [Act.put, List.setIfInBounds_toArray, List.set_cons_succ, List.set_cons_zero] at hK
      generalize vs 2 = vq2 at hK dq2 ⊢
      subst vq2
      go_wp2
      exact hK _ _ rfl (Mod.refl _ _)
    refine opsOkA_cons ?_ ?_
    · intro K vs W hR hD hK
      have dq2 : vs 2 = .bool false := hD 2 (by decide)
      have dq3 : vs 3 = .pointer (some ⟨t, 0, none⟩) := hD 3 (by decide)
      have dq4 : vs 4 = .int .i64 (ia : Int) := hD 4 (by decide)
      clear hD
      try dsimp only at hK ⊢
      simp only [Act.put, List.setIfInBounds_toArray, List.set_cons_succ, List.set_cons_zero] at hK
      generalize vs 2 = vq2 at hK dq2 ⊢
      subst vq2
      generalize vs 3 = vq3 at hK dq3 ⊢
      subst vq3
      generalize vs 4 = vq4 at hK dq4 ⊢
      subst vq4
      go_wp2_with (go_at_call 16; refine (next_any t p B C GB W ((HSd.out.at (hR)).2.2.2.2.1) (ia : Int)).mono ?_; rintro e' w' ⟨x', rfl, hx', hm'⟩)
      exact hK _ _ hx' hm'
    refine opsOkA_cons ?_ ?_
    · intro K vs W hR hD hK
      have dq2 : vs 2 = .bool false := hD 2 (by decide)
      clear hD
      try dsimp only at hK ⊢
      simp only [Act.put, List.setIfInBounds_toArray, List.set_cons_succ, List.set_cons_zero] at hK
      generalize vs 2 = vq2 at hK dq2 ⊢
      subst vq2
      go_wp2
      exact hK _ _ rfl (Mod.refl _ _)
    refine opsOkA_cons ?_ ?_
    · intro K vs W hR hD hK
      have dq2 : vs 2 = .bool false := hD 2 (by decide)
      clear hD
      try dsimp only at hK ⊢
      simp only [Act.put, List.setIfInBounds_toArray, List.set_cons_succ, List.set_cons_zero] at hK
      generalize vs 2 = vq2 at hK dq2 ⊢
      subst vq2
      go_wp2
      exact hK _ _ rfl (Mod.refl _ _)
    refine opsOkA_cons ?_ ?_
    · intro K vs W hR hD hK
      have dq2 : vs 2 = .bool false := hD 2 (by decide)
      have dq7 : vs 7 = .pointer (some ⟨bg, 1, none⟩) := hD 7 (by decide)
      clear hD
      try dsimp only at hK ⊢
      simp only [Act.put, List.setIfInBounds_toArray, List.set_cons_succ, List.set_cons_zero] at hK
      generalize vs 2 = vq2 at hK dq2 ⊢
      subst vq2
      generalize vs 7 = vq7 at hK dq7 ⊢
      subst vq7
      have q0 := ((HSd.out.at (hR)).2.2.2.2.2.2.1).cell 1 rfl
      go_wp2
      exact hK _ _ rfl (Mod.refl _ _)
    refine opsOkA_cons ?_ ?_
    · intro K vs W hR hD hK
      have dq2 : vs 2 = .bool false := hD 2 (by decide)
      clear hD
      try dsimp only at hK ⊢
      simp only [Act.put, List.setIfInBounds_toArray, List.set_cons_succ, List.set_cons_zero] at hK
      generalize vs 2 = vq2 at hK dq2 ⊢
      subst vq2
      go_wp2
      exact hK _ _ rfl (Mod.refl _ _)
    refine opsOkA_cons ?_ ?_
    · intro K vs W hR hD hK
      have dq2 : vs 2 = .bool false := hD 2 (by decide)
      have dq8 : vs 8 = .slice a2 n2 d2 := hD 8 (by decide)
      have dq9 : vs 9 = .int .i64 (ia : Int) := hD 9 (by decide)
      clear hD
      try dsimp only at hK ⊢
      simp only [Act.put, List.setIfInBounds_toArray, List.set_cons_succ, List.set_cons_zero] at hK
      generalize vs 2 = vq2 at hK dq2 ⊢
      subst vq2
      generalize vs 8 = vq8 at hK dq8 ⊢
      subst vq8
      generalize vs 9 = vq9 at hK dq9 ⊢
      subst vq9
      have hix := HIe.out
      go_wp2_with fail
      exact hK _ _ rfl (Mod.refl _ _)
    refine opsOkA_cons ?_ ?_
    · intro K vs W hR hD hK
      have dq2 : vs 2 = .bool false := hD 2 (by decide)
      have dq10 : vs 10 = .pointer (some ⟨eb, eo, none⟩) := hD 10 (by decide)
      clear hD
      try dsimp only at hK ⊢
      simp only [Act.put, List.setIfInBounds_toArray, List.set_cons_succ, List.set_cons_zero] at hK
      generalize vs 2 = vq2 at hK dq2 ⊢
      subst vq2
      generalize vs 10 = vq10 at hK dq10 ⊢
      subst vq10
      go_wp2
      exact hK _ _ rfl (Mod.refl _ _)
    refine opsOkA_cons ?_ ?_
    · intro K vs W hR hD hK
      have dq2 : vs 2 = .bool false := hD 2 (by decide)
      have dq11 : vs 11 = .pointer (some ⟨eb, eo + 1, none⟩) := hD 11 (by decide)
      clear hD
      try dsimp only at hK ⊢
      simp only [Act.put, List.setIfInBounds_toArray, List.set_cons_succ, List.set_cons_zero] at hK
      generalize vs 2 = vq2 at hK dq2 ⊢
      subst vq2
      generalize vs 11 = vq11 at hK dq11 ⊢
      subst vq11
      have c1 := (HSd.out.at (hR)).2.1
      go_wp2
      exact hK _ _ rfl (Mod.refl _ _)
    refine opsOkA_cons ?_ ?_
    · intro K vs W hR hD hK
      have dq2 : vs 2 = .bool false := hD 2 (by decide)
      have dq6 : vs 6 = .pointer (some ⟨p, 0, none⟩) := hD 6 (by decide)
      have dq12 : vs 12 = .int .i64 ya := hD 12 (by decide)
      clear hD
      try dsimp only at hK ⊢
      simp only [Act.put, List.setIfInBounds_toArray, List.set_cons_succ, List.set_cons_zero] at hK
      generalize vs 2 = vq2 at hK dq2 ⊢
      subst vq2
      generalize vs 6 = vq6 at hK dq6 ⊢
      subst vq6
      generalize vs 12 = vq12 at hK dq12 ⊢
      subst vq12
      go_wp2_with (go_at_call 17; refine (out_row p B C W GB ((HSd.out.at (hR)).2.2.2.2.2.1) ya).mono ?_; rintro e' w' ⟨x', rfl, hx', hm'⟩)
      exact hK _ _ hx' hm'
    refine opsOkA_cons ?_ ?_
    · intro K vs W hR hD hK
      have dq2 : vs 2 = .bool false := hD 2 (by decide)
      have dq5 : (IRow (nxtR GB (ia : Int))) (vs 5) W := hD 5 (by decide)
      have dq13 : (IRow (gOut GB ya)) (vs 13) W := hD 13 (by decide)
      clear hD
      try dsimp only at hK ⊢
      simp only [Act.put, List.setIfInBounds_toArray, List.set_cons_succ, List.set_cons_zero] at hK
      generalize vs 2 = vq2 at hK dq2 ⊢
      subst vq2
      generalize vs 5 = vq5 at hK dq5 ⊢
      generalize vs 13 = vq13 at hK dq13 ⊢
      obtain ⟨ax5, cx5, rfl, hx5⟩ := dq5
      obtain ⟨ax13, cx13, rfl, hx13⟩ := dq13
      go_wp2_with (go_at_call 15; refine (ints_same W _ _ _ _ rfl hx5 _ _ _ _ rfl hx13 (by rw [HNS.out, HLN.out]; omega) true (decide_eq_true (by rw [HNS.out, HOUT.out]))).mono ?_; rintro e' w' ⟨rfl, hm'⟩)
      exact hK _ _ rfl hm'
    refine opsOkA_cons ?_ ?_
    · intro K vs W hR hD hK
      have dq2 : vs 2 = .bool false := hD 2 (by decide)
      have dq14 : vs 14 = .bool true := hD 14 (by decide)
      clear hD
      try dsimp only at hK ⊢
      simp only [Act.put, List.setIfInBounds_toArray, List.set_cons_succ, List.set_cons_zero] at hK
      generalize vs 2 = vq2 at hK dq2 ⊢
      subst vq2
      generalize vs 14 = vq14 at hK dq14 ⊢
      subst vq14
      go_wp2
      exact hK _ _ rfl (Mod.refl _ _)
    refine opsOkA_cons ?_ ?_
    · intro K vs W hR hD hK
      have dq2 : vs 2 = .bool false := hD 2 (by decide)
      have dq15 : vs 15 = .bool false := hD 15 (by decide)
      clear hD
      try dsimp only at hK ⊢
      simp only [Act.put, List.setIfInBounds_toArray, List.set_cons_succ, List.set_cons_zero] at hK
      generalize vs 2 = vq2 at hK dq2 ⊢
      subst vq2
      generalize vs 15 = vq15 at hK dq15 ⊢
      subst vq15
      go_wp2
      exact hK _ _ rfl (Mod.refl _ _)
    exact opsOkA_nil
  · intro vs wq7 hR hF
    have dq16 : vs 16 = .bool false := hF 16 (by decide)
    clear hF
    try dsimp only
    generalize vs 16 = vq16 at dq16 ⊢
    subst dq16
    replace HS := Lib.hid (HSd.out.step hR)
    clear HSd hR
    have hbbg := (HS.out.now).2.2.2.2.2.2.1
    have qbg_0 := hbbg.cell 0 rfl
    have qbg_1 := hbbg.cell 1 rfl
    have qbg_2 := hbbg.cell 2 rfl
    have lbg := hbbg.lt
    clear hbbg
    by_cases h0 : ln = 0
    case pos =>
      subst h0
      go_wp2_with fail
      refine (awake7_any _).mono ?_
      rintro e wq8 ⟨rfl, hmm⟩
      replace HS := Lib.hid (HS.out.step hmm)
      clear hmm
      clear qbg_0 qbg_1 qbg_2 lbg
      have hbbg := (HS.out.now).2.2.2.2.2.2.1
      have qbg_0 := hbbg.cell 0 rfl
      have qbg_1 := hbbg.cell 1 rfl
      have qbg_2 := hbbg.cell 2 rfl
      have lbg := hbbg.lt
      clear hbbg
      go_wp2_with fail
      go_ret
      exact ⟨rfl, (HS.out.now).2.2.2.2.2.2.2.2.2⟩
    case neg =>
      have z0 : ((ln : Int) == 0) = false := beq_eq_false_iff_ne.2 (by omega)
      go_wp2_with fail
      clear z0
      refine (round_any vb (ln : Int) _ (by omega) (by omega)).mono ?_
      rintro e w' ⟨rfl, rfl⟩
      have hr0 := Int.emod_nonneg vb (b := (ln : Int)) (by omega)
      have hr1 := Int.emod_lt_of_pos vb (b := (ln : Int)) (by omega)
      obtain ⟨kk, hr2⟩ := Int.eq_ofNat_of_zero_le hr0
      rw [hr2] at hr1 ⊢
      have hkk : kk < ln := by omega
      clear hr0 hr1 hr2
      have hkl : kk < ns.length := by rw [HLN.out]; exact hkk
      have hq : nxtR (noBans G) (ia : Int) = ns := by rw [HGB.out, HNS.out]
      have hN1 : nxtR (oneBan G (ia : Int) ns[kk]) (ia : Int) = ns.take kk ++ ns.drop (kk + 1) := by subst hq; exact nxt_one G (ia : Int) kk hkl
      have hA1 : (arcsR (oneBan G (ia : Int) ns[kk])).length + 1 = (arcsR (noBans G)).length := by subst hq; exact arcs_one G ia kk (by rw [HEG.out]; exact hia) hkl
      have hT1 : turnB (noBans G) (ia : Int) ns[kk] = true := by subst hq; have hm : (nxtR (noBans G) (ia : Int))[kk] ∈ nxtR (noBans G) (ia : Int) := List.getElem_mem hkl; unfold nxtR at hm; obtain ⟨x, hx, hxe⟩ := List.mem_map.1 hm; have h2 := (List.mem_filter.1 hx).2; unfold nxtR; rw [← hxe]; exact h2
      have hM1 := may_one HMT.out hT1
      obtain ⟨nk, hnk⟩ : ∃ x, ns[kk] = x := ⟨_, rfl⟩
      rw [hnk] at hN1 hA1 hM1
      obtain ⟨G1, hG1⟩ : ∃ x, oneBan G (ia : Int) nk = x := ⟨_, rfl⟩
      have hg1 : G1.N = GB.N ∧ G1.E = GB.E ∧ G1.B = [((ia : Int), nk)] := by rw [← hG1, ← HGB.out]; exact ⟨rfl, rfl, rfl⟩
      rw [hG1] at hN1 hA1 hM1
      rw [HGB.out] at hA1
      have HN1 := Lib.hid hN1
      have HA1 := Lib.hid hA1
      have HM1 := Lib.hid hM1
      have HG1 := Lib.hid hg1
      have HNK := Lib.hid hnk
      clear hN1 hA1 hM1 hT1 hq hG1 hg1 hnk
      obtain ⟨fb, fo, hpl, e0⟩ := rd1 (HS.out.now).2.2.2.1 kk hkl
      have hix := fun wx => run_indexS (P := Try.prog) wx 22 3 iI 1 Try.underlying22 hiI hsI an ln cn kk hkk ((HS.out.now).2.2.2.1.some_ (by have := hkk; omega))
      rw [hpl] at hix
      have HIf := Lib.hid hix
      clear hix hpl
      rw [HNK.out] at e0
      replace HS := Lib.hid ((Ev.cell e0).and HS.out)
      clear e0
      have qf := (HS.out.now).1
      have hix := HIf.out
      go_upto_region 17 with fail
      have HSP := HS
      replace HS := Lib.hid ((Ev.mod wq7).and HS.out)
      clear qbg_0 qbg_1 qbg_2 lbg
      obtain ⟨bo, hbo⟩ : ∃ b, wq7.heap.size = b := ⟨_, rfl⟩
      obtain ⟨wq9, hwq9⟩ : ∃ W, World.alloc wq7 (.cells #[.slice a1 n1 d1, .slice a2 n2 d2, .slice none 0 0] 28) = W := ⟨_, rfl⟩
      have hBbo : Blk wq9 bo 28 [.slice a1 n1 d1, .slice a2 n2 d2, .slice none 0 0] := by rw [← hwq9, ← hbo]; exact Blk.new _ 28 [.slice a1 n1 d1, .slice a2 n2 d2, .slice none 0 0]
      have hzbo : wq9.heap.size = bo + 1 := by rw [← hwq9, ← hbo]; exact heap_size_alloc _ _
      replace HS := Lib.hid (HS.out.step (w' := wq9) (by rw [← hwq9]; exact Mod.alloc _ _ _))
      replace HS := Lib.hid ((Ev.blk hBbo).and HS.out)
      have lbz : wq7.heap.size ≤ bo := by omega
      try rw [hwq9]
      try rw [hbo]
      clear hzbo hBbo hbo hwq9
      have hbbg := (HS.out.now).2.2.2.2.2.2.2.2.2.1
      have qbg_0 := hbbg.cell 0 rfl
      have qbg_1 := hbbg.cell 1 rfl
      have qbg_2 := hbbg.cell 2 rfl
      have lbg := hbbg.lt
      clear hbbg
      have hlb0 := ((HS.out.now).1)
      have k0 := hlb0.cell 0 rfl
      have k1 := hlb0.cell 1 rfl
      have k2 := hlb0.cell 2 rfl
      have f2 := hlb0.free 2
      have lb0 := hlb0.lt
      have qf := (HS.out.now).2.2.1
      have HB0l := Lib.hid hlb0
      have HMP := Lib.hid ((HS.out.now).2.1)
      clear hlb0
      go_upto_region 18 with fail
      clear k0 k1 k2 f2 lb0 qf hix
      obtain ⟨bq, hbq⟩ : ∃ b, wq9.heap.size = b := ⟨_, rfl⟩
      obtain ⟨ws, hws⟩ : ∃ W, World.alloc (World.setCell wq9 ⟨bo, 2, none⟩ (.slice (some ⟨wq9.heap.size, 0, none⟩) 1 1)) (.cells #[.int .i64 (ia : Int), .int .i64 nk] 43) = W := ⟨_, rfl⟩
      rw [hws]
      have k1 : Mod (fun _ => False) wq7 ws := by rw [← hws]; exact HMP.out.old ((Mod.setCell (F := fun k => k = bo) _ ⟨bo, 2, none⟩ _ rfl).trans (Mod.alloc (fun k => k = bo) _ _) (fun _ _ e => e) (fun _ _ e => e)) (fun i hi => by subst hi; exact lbz)
      have k2 : Blk ws bo 28 [.slice a1 n1 d1, .slice a2 n2 d2, .slice (some ⟨bq, 0, none⟩) 1 1] := by rw [← hws, hbq]; exact (HB0l.out.set 2 _).keep (Mod.alloc (fun _ => False) _ _) (fun e => e)
      have k3 : Rd ws 2 (.slice (some ⟨bq, 0, none⟩) 1 1) 1 (G1.B.flatMap c2) := by rw [← hws, HG1.out.2.2]; exact Rd.litN 43 2 [.int .i64 (ia : Int), .int .i64 nk] (0, 0) bq 1 (by rw [← hbq]; simp) rfl (by decide)
      try rw [hbq]
      replace HS := Lib.hid ((Ev.blk k2).and ((Ev.rd k3).and (HSP.out.step k1)))
      clear k1 k2 k3 hws hbq HSP HB0l HMP lbz
      have hbbg := (HS.out.now).2.2.2.2.2.2.2.2.2.1
      have qbg_0 := hbbg.cell 0 rfl
      have qbg_1 := hbbg.cell 1 rfl
      have qbg_2 := hbbg.cell 2 rfl
      have lbg := hbbg.lt
      clear hbbg
      have hbbo := (HS.out.now).1
      have qbo_0 := hbbo.cell 0 rfl
      have qbo_1 := hbbo.cell 1 rfl
      have qbo_2 := hbbo.cell 2 rfl
      have lbo := hbbo.lt
      clear hbbo
      go_wp2_with fail
      refine (new_ok G1 HM1.out _ a1 n1 d1 a2 n2 d2 (some ⟨bq, 0, none⟩) 1 1 ⟨by rw [HG1.out.1]; exact (HS.out.now).2.2.2.2.2.2.2.2.2.2.1.n, by rw [HG1.out.2.1]; exact (HS.out.now).2.2.2.2.2.2.2.2.2.2.1.e, by rw [HG1.out.2.2]; rfl, by rw [HG1.out.1]; exact (HS.out.now).2.2.2.2.2.2.2.2.2.2.1.rn, by rw [HG1.out.2.1]; exact (HS.out.now).2.2.2.2.2.2.2.2.2.2.1.re, (HS.out.now).2.1⟩).mono ?_
      rintro e wq10 ⟨p2, B2, C2, rfl, hgo, hmm⟩
      replace HS := Lib.hid (HS.out.step hmm)
      clear hmm
      clear qbg_0 qbg_1 qbg_2 lbg qbo_0 qbo_1 qbo_2 lbo
      have hbbg := (HS.out.now).2.2.2.2.2.2.2.2.2.1
      have qbg_0 := hbbg.cell 0 rfl
      have qbg_1 := hbbg.cell 1 rfl
      have qbg_2 := hbbg.cell 2 rfl
      have lbg := hbbg.lt
      clear hbbg
      have hbbo := (HS.out.now).1
      have qbo_0 := hbbo.cell 0 rfl
      have qbo_1 := hbbo.cell 1 rfl
      have qbo_2 := hbbo.cell 2 rfl
      have lbo := hbbo.lt
      clear hbbo
      replace HS := Lib.hid ((Ev.go hgo).and HS.out)
      clear hgo
      go_wp2_with fail
      refine (tnew_any p2 B2 C2 G1 _ ((HS.out.now).1)).mono ?_
      rintro e wq11 ⟨t2, rfl, _, hto, hmm⟩
      replace HS := Lib.hid (HS.out.step hmm)
      clear hmm
      clear qbg_0 qbg_1 qbg_2 lbg qbo_0 qbo_1 qbo_2 lbo
      have hbbg := (HS.out.now).2.2.2.2.2.2.2.2.2.2.1
      have qbg_0 := hbbg.cell 0 rfl
      have qbg_1 := hbbg.cell 1 rfl
      have qbg_2 := hbbg.cell 2 rfl
      have lbg := hbbg.lt
      clear hbbg
      have hbbo := (HS.out.now).2.1
      have qbo_0 := hbbo.cell 0 rfl
      have qbo_1 := hbbo.cell 1 rfl
      have qbo_2 := hbbo.cell 2 rfl
      have lbo := hbbo.lt
      clear hbbo
      replace HS := Lib.hid ((Ev.to hto).and HS.out)
      clear hto
      have hkc : kk ≤ ln := by omega
      have hkc1 : kk + 1 ≤ ln := by omega
      have hcn : ln ≤ cn := rd_cap ((HS.out.now).2.2.2.2.2.2.2.2.1)
      have htk := fun wx => run_takeS (P := Try.prog) wx 22 3 iI Try.underlying22 hiI an ln cn kk (by omega)
      have hdk := fun wx => run_dropS (P := Try.prog) wx 22 3 iI 1 Try.underlying22 hiI hsI an ln cn (kk + 1) hkc1
      have HTK := Lib.hid htk
      have HDK := Lib.hid hdk
      clear htk hdk
      replace HS := Lib.hid ((Ev.rd (rd_take ((HS.out.now).2.2.2.2.2.2.2.2.1) hkc)).and HS.out)
      replace HS := Lib.hid ((Ev.rd (rd_drop ((HS.out.now).2.2.2.2.2.2.2.2.2.1) hkc1)).and HS.out)
      go_upto_region 24 with fail
      obtain ⟨B0, hB0⟩ : ∃ n, wq11.heap.size = n := ⟨_, rfl⟩
      have HB0 := Lib.hid hB0
      clear hB0
      have HOLD : Hid (∀ W, Mod (fun k => B0 ≤ k) (World.drew wq11) W → Mod (fun _ => False) (World.drew wq11) W) := Lib.hid fun W h => h.mono (fun i hi e => by have := HB0.out; simp at hi; omega)
      have hal : (arcsR GB).length ≤ 1000000 := by have h := arcsTo_len GB GB.E.length; have h4 : GB.E.length * GB.E.length ≤ 67 * 67 := Nat.mul_le_mul (by have := he.out; omega) (by have := he.out; omega); have h5 : (arcsR GB).length = (arcsTo GB GB.E.length).length := rfl; omega
      go_upto_region 24 with fail
      clear qbg_0 qbg_1 qbg_2 lbg qbo_0 qbo_1 qbo_2 lbo
      have HSd := Lib.hid HS.out.drew
      have HST : ∀ (ix : Nat) (vs : Nat → Value) (vx : Value) (wx wy : World), factP (tf_r24_1_F t t2 ia kk ln GB G1 an cn ns B0) ix vs vx wx → Mod (fun _ => False) wx wy → factP (tf_r24_1_F t t2 ia kk ln GB G1 an cn ns B0) ix vs vx wy := by
        refine factP_stays ?_
        unfold tf_r24_1_F
        exact stableP_cons (StableP.of (stable_val _)) <| stableP_cons (StableP.of (stable_val _)) <| stableP_cons (StableP.of (IRow.st _)) <| stableP_cons (StableP.of (EmpJ.st)) <| stableP_cons (StableP.of (stable_val _)) <| stableP_cons (StableP.of (stable_val _)) <| stableP_cons (StableP.of (stable_val _)) <| stableP_cons (OwnA.st) <| stableP_cons (StableP.of (stable_val _)) <| stableP_cons (StableP.of (stable_val _)) <| stableP_cons (StableP.of (stable_val _)) <| stableP_cons (StableP.of (stable_val _)) <| stableP_cons (StableP.of (OwnJ.st)) <| stableP_cons (StableP.of (stable_val _)) <| stableP_cons (StableP.of (stable_val _)) <| stableP_cons (StableP.of (stable_val _)) <| stableP_cons (StableP.of (ARow.st _)) <| stableP_cons (StableP.of (stable_val _)) <| stableP_cons (StableP.of (stable_val _)) <| stableP_cons (StableP.of (ARow.st _)) <| stableP_cons (StableP.of (stable_val _)) <| stableP_cons (StableP.of (stable_val _)) <| stableP_cons (StableP.of (stable_val _)) <| stableP_cons (StableP.of (stable_val _)) <| stableP_cons (StableP.of (stable_val _)) <| stableP_cons (StableP.of (stable_val _)) <| stableP_cons (StableP.of (stable_val _)) <| stableP_nil
      have HSO : ∀ px ∈ (tf_r24_1_F t t2 ia kk ln GB G1 an cn ns B0), px.1 = true → ∀ (vs : Nat → Value) (vx : Value) (wx wy : World), px.2 vs vx wx → px.2 vs vx wy := by
        unfold tf_r24_1_F
        exact solidP_cons (solid_val _) <| solidP_cons (solid_val _) <| solidP_cons (fun h => by cases h) <| solidP_cons (fun h => by cases h) <| solidP_cons (solid_val _) <| solidP_cons (solid_val _) <| solidP_cons (solid_val _) <| solidP_cons (fun h => by cases h) <| solidP_cons (solid_val _) <| solidP_cons (solid_val _) <| solidP_cons (solid_val _) <| solidP_cons (solid_val _) <| solidP_cons (fun h => by cases h) <| solidP_cons (solid_val _) <| solidP_cons (solid_val _) <| solidP_cons (solid_val _) <| solidP_cons (fun h => by cases h) <| solidP_cons (solid_val _) <| solidP_cons (solid_val _) <| solidP_cons (fun h => by cases h) <| solidP_cons (solid_val _) <| solidP_cons (solid_val _) <| solidP_cons (solid_val _) <| solidP_cons (solid_val _) <| solidP_cons (solid_val _) <| solidP_cons (solid_val _) <| solidP_cons (solid_val _) <| solidP_nil
      have HLO : LocL (fun i => tf_r24_1_D.getD i []) 0 (tf_r24_1_F t t2 ia kk ln GB G1 an cn ns B0) := by
        unfold tf_r24_1_F
        exact loc_cons (loc_own _) <| loc_cons (loc_own _) <| loc_cons (loc_own _) <| loc_cons (loc_own _) <| loc_cons (loc_own _) <| loc_cons (loc_own _) <| loc_cons (loc_own _) <| loc_cons (OwnA.loc (by decide)) <| loc_cons (loc_own _) <| loc_cons (loc_own _) <| loc_cons (loc_own _) <| loc_cons (loc_own _) <| loc_cons (loc_own _) <| loc_cons (loc_own _) <| loc_cons (loc_own _) <| loc_cons (loc_own _) <| loc_cons (loc_own _) <| loc_cons (loc_own _) <| loc_cons (loc_own _) <| loc_cons (loc_own _) <| loc_cons (loc_own _) <| loc_cons (loc_own _) <| loc_cons (loc_own _) <| loc_cons (loc_own _) <| loc_cons (loc_own _) <| loc_cons (loc_own _) <| loc_cons (loc_own _) <| loc_nil
      refine wp_region_pair (act := ?acttf_r24_1) (Mod (fun k => B0 ≤ k)) (factP (tf_r24_1_F t t2 ia kk ln GB G1 an cn ns B0)) (fun i => tf_r24_1_C.getD i 1000) (fun i => tf_r24_1_D.getD i []) 27 _ rfl rfl (by kernel_rfl) (by kernel_rfl) (by kernel_rfl) (by kernel_rfl) (by kernel_rfl) (fun _ => Mod.refl _ _)
        (fun _ _ _ h k => h.trans k (fun _ _ e => e) (fun _ _ e => e)) ?hacttf_r24_1 (loc_of HLO) ?_ ?_
      case hacttf_r24_1 => intro vs; simp only [putAll, Nat.zero_add, Nat.reduceAdd, Act.put, List.setIfInBounds_toArray, List.set_cons_succ, List.set_cons_zero]; exact rfl
      · refine opsOkP_cons ?_ ?_
        · intro K vs W hR hD hK
          clear hD
          try dsimp only at hK ⊢
          simp only [Act.put, List.setIfInBounds_toArray, List.set_cons_succ, List.set_cons_zero] at hK
          go_wp2
          exact hK _ _ rfl (fun _ _ h => h) (Mod.refl _ _)
        refine opsOkP_cons ?_ ?_
        · intro K vs W hR hD hK
          clear hD
          try dsimp only at hK ⊢
          simp only [Act.put, List.setIfInBounds_toArray, List.set_cons_succ, List.set_cons_zero] at hK
          go_wp2
          exact hK _ _ rfl (fun _ _ h => h) (Mod.refl _ _)
        refine opsOkP_cons ?_ ?_
        · intro K vs W hR hD hK
          have dq0 : vs 0 = .pointer (some ⟨t2, 0, none⟩) := hD 0 (by decide)
          have dq1 : vs 1 = .int .i64 (ia : Int) := hD 1 (by decide)
          clear hD
          try dsimp only at hK ⊢
          simp only [Act.put, List.setIfInBounds_toArray, List.set_cons_succ, List.set_cons_zero] at hK
          generalize vs 0 = vq0 at hK dq0 ⊢
          subst vq0
          generalize vs 1 = vq1 at hK dq1 ⊢
          subst vq1
          go_wp2_with (go_at_call 16; refine (next_any t2 p2 B2 C2 G1 W ((HSd.out.at (HOLD.out W hR)).2.2.1) (ia : Int)).mono ?_; rintro e' w' ⟨x', rfl, hx', hm'⟩)
          exact hK _ _ hx' (fun j _ h => HST j vs _ _ _ h hm') (hm'.mono (fun _ _ e => e.elim))
        refine opsOkP_cons ?_ ?_
        · intro K vs W hR hD hK
          clear hD
          try dsimp only at hK ⊢
          simp only [Act.put, List.setIfInBounds_toArray, List.set_cons_succ, List.set_cons_zero] at hK
          have hz := (show B0 ≤ W.heap.size from (by have h1 := HB0.out; have h2 := hR.size; simp at h2; omega))
          go_wp2
          exact hK _ _ ⟨_, rfl, Own.rebase (own_empty W 3 1 W.heap.size rfl) (low_lit hz)⟩ (fun j _ h => HST j vs _ _ _ h (Mod.alloc _ _ _)) (Mod.alloc _ _ _)
        refine opsOkP_cons ?_ ?_
        · intro K vs W hR hD hK
          clear hD
          try dsimp only at hK ⊢
          simp only [Act.put, List.setIfInBounds_toArray, List.set_cons_succ, List.set_cons_zero] at hK
          go_wp2
          exact hK _ _ rfl (fun _ _ h => h) (Mod.refl _ _)
        refine opsOkP_cons ?_ ?_
        · intro K vs W hR hD hK
          clear hD
          try dsimp only at hK ⊢
          simp only [Act.put, List.setIfInBounds_toArray, List.set_cons_succ, List.set_cons_zero] at hK
          go_wp2
          exact hK _ _ rfl (fun _ _ h => h) (Mod.refl _ _)
        refine opsOkP_cons ?_ ?_
        · intro K vs W hR hD hK
          have dq4 : vs 4 = .slice an ln cn := hD 4 (by decide)
          have dq5 : vs 5 = .int .i64 (kk : Int) := hD 5 (by decide)
          clear hD
          try dsimp only at hK ⊢
          simp only [Act.put, List.setIfInBounds_toArray, List.set_cons_succ, List.set_cons_zero] at hK
          generalize vs 4 = vq4 at hK dq4 ⊢
          subst vq4
          generalize vs 5 = vq5 at hK dq5 ⊢
          subst vq5
          have htk := HTK.out
          go_wp2_with fail
          exact hK _ _ rfl (fun _ _ h => h) (Mod.refl _ _)
        refine opsOkP_cons ?_ ?_
        · intro K vs W hR hD hK
          have dq2 : (IRow (nxtR G1 (ia : Int))) (vs 2) W := hD 2 (by decide)
          have dq3 : (EmpJ B0) (vs 3) W := hD 3 (by decide)
          have dq6 : vs 6 = .slice an kk cn := hD 6 (by decide)
          clear hD
          try dsimp only at hK ⊢
          simp only [Act.put, List.setIfInBounds_toArray, List.set_cons_succ, List.set_cons_zero] at hK
          generalize vs 3 = vq3 at hK dq3 ⊢
          generalize vs 6 = vq6 at hK dq6 ⊢
          subst vq6
          have hz := (show B0 ≤ W.heap.size from (by have h1 := HB0.out; have h2 := hR.size; simp at h2; omega))
          have hrd := (HSd.out.at (HOLD.out W hR)).2.1
          obtain ⟨ae, rfl, ho⟩ := dq3
          go_wp2_with (at_builtin; refine wpList_append_any rfl (.tmp 98) (.tmp 101) 22 rfl 3 iI (.int .i64 0) 1 8 Try.underlying22 hiI hzI hsI hbI rfl (by decide) _ 0 ([]) rfl (Own.base ho (Nat.zero_le _)) _ kk ((ns.take kk).map (Value.int .i64)) rfl hrd (by intro u hu; first | (obtain ⟨_, _, rfl⟩ := List.mem_map.1 hu; rfl) | (simp at hu; subst hu; rfl)) (by unfold maxLen; omega) (by omega) ?_; intro v' w' hap)
          obtain ⟨a4, c4, rfl⟩ := hap.form
          have ho4 := hap.own
          have lo4 := hap.low hz (fun k hk => (ho.lt k hk).1)
          have hm4 := hap.still ae 0 0 rfl (by omega)
          simp only [Nat.zero_add, List.nil_append] at ho4 lo4 ⊢
          have hrow := hap.row
          simp only [Nat.zero_add] at hrow
          exact hK _ _ ⟨⟨a4, c4, rfl, Own.rebase ho4 lo4⟩, fun q hq h2 => (by obtain ⟨a2, c2, hv2, hr2⟩ := dq2; rw [hv2] at h2; have hn : (nxtR G1 (ia : Int)).map (Value.int .i64) = [] := (hrow q hq).elim (fun e => emp_apart ho hr2 e h2) (fun e => hr2.lt h2 e); exact List.map_eq_nil_iff.1 hn)⟩ (fun j _ h => HST j vs _ _ _ h hm4) (hm4.mono (fun _ _ e => e.elim))
        refine opsOkP_cons ?_ ?_
        · intro K vs W hR hD hK
          clear hD
          try dsimp only at hK ⊢
          simp only [Act.put, List.setIfInBounds_toArray, List.set_cons_succ, List.set_cons_zero] at hK
          go_wp2
          exact hK _ _ rfl (fun _ _ h => h) (Mod.refl _ _)
        refine opsOkP_cons ?_ ?_
        · intro K vs W hR hD hK
          clear hD
          try dsimp only at hK ⊢
          simp only [Act.put, List.setIfInBounds_toArray, List.set_cons_succ, List.set_cons_zero] at hK
          go_wp2
          exact hK _ _ rfl (fun _ _ h => h) (Mod.refl _ _)
        refine opsOkP_cons ?_ ?_
        · intro K vs W hR hD hK
          have dq9 : vs 9 = .int .i64 (kk : Int) := hD 9 (by decide)
          clear hD
          try dsimp only at hK ⊢
          simp only [Act.put, List.setIfInBounds_toArray, List.set_cons_succ, List.set_cons_zero] at hK
          generalize vs 9 = vq9 at hK dq9 ⊢
          subst vq9
          go_wp2
          exact hK _ _ rfl (fun _ _ h => h) (Mod.refl _ _)
        refine opsOkP_cons ?_ ?_
        · intro K vs W hR hD hK
          have dq8 : vs 8 = .slice an ln cn := hD 8 (by decide)
          have dq10 : vs 10 = .int .i64 ((kk : Int) + 1) := hD 10 (by decide)
          clear hD
          try dsimp only at hK ⊢
          simp only [Act.put, List.setIfInBounds_toArray, List.set_cons_succ, List.set_cons_zero] at hK
          generalize vs 8 = vq8 at hK dq8 ⊢
          subst vq8
          generalize vs 10 = vq10 at hK dq10 ⊢
          subst vq10
          have hdk := HDK.out
          have zk : ((kk + 1 : Nat) : Int) = (kk : Int) + 1 := by omega
          rw [zk] at hdk
          clear zk
          go_wp2_with fail
          exact hK _ _ rfl (fun _ _ h => h) (Mod.refl _ _)
        refine opsOkP_cons ?_ ?_
        · intro K vs W hR hD hK
          have dq7 : (OwnA B0 kk ((ns.take kk).map (Value.int .i64)) 2 (nxtR G1 (ia : Int))) vs (vs 7) W := hD 7 (by decide)
          have dq11 : vs 11 = .slice (dropA an cn (kk + 1) 1) (ln - (kk + 1)) (cn - (kk + 1)) := hD 11 (by decide)
          clear hD
          try dsimp only at hK ⊢
          simp only [Act.put, List.setIfInBounds_toArray, List.set_cons_succ, List.set_cons_zero] at hK
          generalize vs 7 = vq7 at hK dq7 ⊢
          generalize vs 11 = vq11 at hK dq11 ⊢
          subst vq11
          have hz := (show B0 ≤ W.heap.size from (by have h1 := HB0.out; have h2 := hR.size; simp at h2; omega))
          have hrd := (HSd.out.at (HOLD.out W hR)).1
          obtain ⟨⟨ae, ce, rfl, ho⟩, hapt⟩ := dq7
          go_wp2_with (at_builtin; refine wpList_append_any rfl (.tmp 102) (.tmp 106) 22 rfl 3 iI (.int .i64 0) 1 8 Try.underlying22 hiI hzI hsI hbI rfl (by decide) _ kk ((ns.take kk).map (Value.int .i64)) rfl (Own.base ho (Nat.zero_le _)) _ (ln - (kk + 1)) ((ns.drop (kk + 1)).map (Value.int .i64)) rfl hrd (by intro u hu; first | (obtain ⟨_, _, rfl⟩ := List.mem_map.1 hu; rfl) | (simp at hu; subst hu; rfl)) (by unfold maxLen; omega) (by omega) ?_; intro v' w' hap)
          obtain ⟨a4, c4, rfl⟩ := hap.form
          have ho4 := hap.own
          have lo4 := hap.low hz (fun k hk => (ho.lt k hk).1)
          exact hK _ _ ⟨a4, c4, rfl, Own.rebase ho4 lo4⟩ (factP_solid HSO [2] 12 (by kernel_rfl) (all_one (fun h => irow_keep h hap.mod hapt))) (hap.mod.mono (fun k _ e => (ho.lt k e).1))
        refine opsOkP_cons ?_ ?_
        · intro K vs W hR hD hK
          have dq2 : (IRow (nxtR G1 (ia : Int))) (vs 2) W := hD 2 (by decide)
          have dq12 : (OwnJ B0 (kk + (ln - (kk + 1))) ((ns.take kk).map (Value.int .i64) ++ (ns.drop (kk + 1)).map (Value.int .i64))) (vs 12) W := hD 12 (by decide)
          clear hD
          try dsimp only at hK ⊢
          simp only [Act.put, List.setIfInBounds_toArray, List.set_cons_succ, List.set_cons_zero] at hK
          generalize vs 2 = vq2 at hK dq2 ⊢
          generalize vs 12 = vq12 at hK dq12 ⊢
          obtain ⟨ax2, cx2, rfl, hx2⟩ := dq2
          obtain ⟨aor, cor, rfl, hor⟩ := dq12
          go_wp2_with (go_at_call 15; refine (ints_same W _ _ _ _ rfl hx2 _ (kk + (ln - (kk + 1))) _ (ns.take kk ++ ns.drop (kk + 1)) (by rw [List.length_append, List.length_take, List.length_drop, HLN.out]; omega) (by rw [List.map_append]; exact Rd.ofOwn hor) (by rw [HN1.out, List.length_append, List.length_take, List.length_drop, HLN.out]; omega) true (decide_eq_true HN1.out)).mono ?_; rintro e' w' ⟨rfl, hm'⟩)
          exact hK _ _ rfl (fun j _ h => HST j vs _ _ _ h hm') (hm'.mono (fun _ _ e => e.elim))
        refine opsOkP_cons ?_ ?_
        · intro K vs W hR hD hK
          have dq13 : vs 13 = .bool true := hD 13 (by decide)
          clear hD
          try dsimp only at hK ⊢
          simp only [Act.put, List.setIfInBounds_toArray, List.set_cons_succ, List.set_cons_zero] at hK
          generalize vs 13 = vq13 at hK dq13 ⊢
          subst vq13
          go_wp2
          exact hK _ _ rfl (fun _ _ h => h) (Mod.refl _ _)
        refine opsOkP_cons ?_ ?_
        · intro K vs W hR hD hK
          have dq14 : vs 14 = .bool true := hD 14 (by decide)
          clear hD
          try dsimp only at hK ⊢
          simp only [Act.put, List.setIfInBounds_toArray, List.set_cons_succ, List.set_cons_zero] at hK
          generalize vs 14 = vq14 at hK dq14 ⊢
          subst vq14
          go_wp2
          exact hK _ _ rfl (fun _ _ h => h) (Mod.refl _ _)
        refine opsOkP_cons ?_ ?_
        · intro K vs W hR hD hK
          have dq14 : vs 14 = .bool true := hD 14 (by decide)
          have dq15 : vs 15 = .pointer (some ⟨t2, 0, none⟩) := hD 15 (by decide)
          clear hD
          try dsimp only at hK ⊢
          simp only [Act.put, List.setIfInBounds_toArray, List.set_cons_succ, List.set_cons_zero] at hK
          generalize vs 14 = vq14 at hK dq14 ⊢
          subst vq14
          generalize vs 15 = vq15 at hK dq15 ⊢
          subst vq15
          go_wp2_with (go_at_call 18; refine (arcs_any t2 p2 B2 C2 G1 W ((HSd.out.at (HOLD.out W hR)).2.2.1)).mono ?_; rintro e' w' ⟨x', rfl, hx', hm'⟩)
          exact hK _ _ hx' (fun j _ h => HST j vs _ _ _ h hm') (hm'.mono (fun _ _ e => e.elim))
        refine opsOkP_cons ?_ ?_
        · intro K vs W hR hD hK
          have dq14 : vs 14 = .bool true := hD 14 (by decide)
          have dq16 : (ARow (arcsR G1)) (vs 16) W := hD 16 (by decide)
          clear hD
          try dsimp only at hK ⊢
          simp only [Act.put, List.setIfInBounds_toArray, List.set_cons_succ, List.set_cons_zero] at hK
          generalize vs 14 = vq14 at hK dq14 ⊢
          subst vq14
          generalize vs 16 = vq16 at hK dq16 ⊢
          obtain ⟨ax16, cx16, rfl, hx16⟩ := dq16
          go_wp2_with fail
          exact hK _ _ rfl (fun _ _ h => h) (Mod.refl _ _)
        refine opsOkP_cons ?_ ?_
        · intro K vs W hR hD hK
          have dq14 : vs 14 = .bool true := hD 14 (by decide)
          clear hD
          try dsimp only at hK ⊢
          simp only [Act.put, List.setIfInBounds_toArray, List.set_cons_succ, List.set_cons_zero] at hK
          generalize vs 14 = vq14 at hK dq14 ⊢
          subst vq14
          go_wp2
          exact hK _ _ rfl (fun _ _ h => h) (Mod.refl _ _)
        refine opsOkP_cons ?_ ?_
        · intro K vs W hR hD hK
          have dq14 : vs 14 = .bool true := hD 14 (by decide)
          have dq18 : vs 18 = .pointer (some ⟨t, 0, none⟩) := hD 18 (by decide)
          clear hD
          try dsimp only at hK ⊢
          simp only [Act.put, List.setIfInBounds_toArray, List.set_cons_succ, List.set_cons_zero] at hK
          generalize vs 14 = vq14 at hK dq14 ⊢
          subst vq14
          generalize vs 18 = vq18 at hK dq18 ⊢
          subst vq18
          go_wp2_with (go_at_call 18; refine (arcs_any t p B C GB W ((HSd.out.at (HOLD.out W hR)).2.2.2.2.2.2.2.2.2.2.2.1)).mono ?_; rintro e' w' ⟨x', rfl, hx', hm'⟩)
          exact hK _ _ hx' (fun j _ h => HST j vs _ _ _ h hm') (hm'.mono (fun _ _ e => e.elim))
        refine opsOkP_cons ?_ ?_
        · intro K vs W hR hD hK
          have dq14 : vs 14 = .bool true := hD 14 (by decide)
          have dq19 : (ARow (arcsR GB)) (vs 19) W := hD 19 (by decide)
          clear hD
          try dsimp only at hK ⊢
          simp only [Act.put, List.setIfInBounds_toArray, List.set_cons_succ, List.set_cons_zero] at hK
          generalize vs 14 = vq14 at hK dq14 ⊢
          subst vq14
          generalize vs 19 = vq19 at hK dq19 ⊢
          obtain ⟨ax19, cx19, rfl, hx19⟩ := dq19
          go_wp2_with fail
          exact hK _ _ rfl (fun _ _ h => h) (Mod.refl _ _)
        refine opsOkP_cons ?_ ?_
        · intro K vs W hR hD hK
          have dq14 : vs 14 = .bool true := hD 14 (by decide)
          have dq20 : vs 20 = .int .i64 (((arcsR GB).length : Int)) := hD 20 (by decide)
          clear hD
          try dsimp only at hK ⊢
          simp only [Act.put, List.setIfInBounds_toArray, List.set_cons_succ, List.set_cons_zero] at hK
          generalize vs 14 = vq14 at hK dq14 ⊢
          subst vq14
          generalize vs 20 = vq20 at hK dq20 ⊢
          subst vq20
          go_wp2
          exact hK _ _ rfl (fun _ _ h => h) (Mod.refl _ _)
        refine opsOkP_cons ?_ ?_
        · intro K vs W hR hD hK
          have dq14 : vs 14 = .bool true := hD 14 (by decide)
          have dq17 : vs 17 = .int .i64 (((arcsR G1).length : Int)) := hD 17 (by decide)
          have dq21 : vs 21 = .int .i64 (((arcsR GB).length : Int) - 1) := hD 21 (by decide)
          clear hD
          try dsimp only at hK ⊢
          simp only [Act.put, List.setIfInBounds_toArray, List.set_cons_succ, List.set_cons_zero] at hK
          generalize vs 14 = vq14 at hK dq14 ⊢
          subst vq14
          generalize vs 17 = vq17 at hK dq17 ⊢
          subst vq17
          generalize vs 21 = vq21 at hK dq21 ⊢
          subst vq21
          have za := HA1.out
          have zb : ((arcsR G1).length : Int) = ((arcsR GB).length : Int) - 1 := by omega
          clear za
          go_wp2
          exact hK _ _ rfl (fun _ _ h => h) (Mod.refl _ _)
        refine opsOkP_cons ?_ ?_
        · intro K vs W hR hD hK
          have dq14 : vs 14 = .bool true := hD 14 (by decide)
          have dq22 : vs 22 = .bool true := hD 22 (by decide)
          clear hD
          try dsimp only at hK ⊢
          simp only [Act.put, List.setIfInBounds_toArray, List.set_cons_succ, List.set_cons_zero] at hK
          generalize vs 14 = vq14 at hK dq14 ⊢
          subst vq14
          generalize vs 22 = vq22 at hK dq22 ⊢
          subst vq22
          go_wp2
          exact hK _ _ rfl (fun _ _ h => h) (Mod.refl _ _)
        refine opsOkP_cons ?_ ?_
        · intro K vs W hR hD hK
          have dq23 : vs 23 = .bool true := hD 23 (by decide)
          clear hD
          try dsimp only at hK ⊢
          simp only [Act.put, List.setIfInBounds_toArray, List.set_cons_succ, List.set_cons_zero] at hK
          generalize vs 23 = vq23 at hK dq23 ⊢
          subst vq23
          go_wp2
          exact hK _ _ rfl (fun _ _ h => h) (Mod.refl _ _)
        refine opsOkP_cons ?_ ?_
        · intro K vs W hR hD hK
          have dq24 : vs 24 = .bool true := hD 24 (by decide)
          clear hD
          try dsimp only at hK ⊢
          simp only [Act.put, List.setIfInBounds_toArray, List.set_cons_succ, List.set_cons_zero] at hK
          generalize vs 24 = vq24 at hK dq24 ⊢
          subst vq24
          go_wp2_with (go_at_call 9; refine (awake7_any W).mono ?_; rintro e' w' ⟨rfl, hm'⟩)
          exact hK _ _ rfl (fun j _ h => HST j vs _ _ _ h hm') (hm'.mono (fun _ _ e => e.elim))
        refine opsOkP_cons ?_ ?_
        · intro K vs W hR hD hK
          have dq24 : vs 24 = .bool true := hD 24 (by decide)
          have dq25 : vs 25 = .bool true := hD 25 (by decide)
          clear hD
          try dsimp only at hK ⊢
          simp only [Act.put, List.setIfInBounds_toArray, List.set_cons_succ, List.set_cons_zero] at hK
          generalize vs 24 = vq24 at hK dq24 ⊢
          subst vq24
          generalize vs 25 = vq25 at hK dq25 ⊢
          subst vq25
          go_wp2
          exact hK _ _ rfl (fun _ _ h => h) (Mod.refl _ _)
        exact opsOkP_nil
      · intro vs wq12 hR hF
        have dq26 : vs 26 = .bool true := hF 26 (by decide) (by decide)
        clear hF
        try dsimp only
        generalize vs 26 = vq26 at dq26 ⊢
        subst vq26
        have hmw : Mod (fun _ => False) wq11 wq12 := (Mod.drew _ _).of2 (HOLD.out _ hR)
        replace HS := Lib.hid (HS.out.step hmw)
        clear hmw HSd
        go_wp2_with fail
        go_ret
        exact ⟨rfl, (HS.out.now).2.2.2.2.2.2.2.2.2.2.2.2.2.2.2.2⟩
theorem tfree_law (w : World) (a0 : Option Addr) (m c0 : Nat) (l : List Int) (ok : (encSlice (encInt .i64)).ok w (.slice a0 m c0, l)) (va : Int) (_ : (Lit.int .i64 va).wf = true) (vb : Int) (_ : (Lit.int .i64 vb).wf = true) :
    Calls Try.prog 3 #[.slice a0 m c0, .int .i64 va, .int .i64 vb] w fun e w' => e = .returned (.bool true) ∧ Below w.heap.size w w' := by
  obtain ⟨hn, hr, _⟩ := ok_ints ok
  exact (tfree_all w a0 m c0 l hn hr va vb).mono fun e w' h => ⟨h.1, h.2.below (Nat.le_refl _) (fun _ e => e.elim)⟩
end Go.Proofs.Ytagmnkobigecnaa
