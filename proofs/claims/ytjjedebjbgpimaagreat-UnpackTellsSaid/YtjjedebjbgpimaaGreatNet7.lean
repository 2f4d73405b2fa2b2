/- Nets: Put, by contract. -/
import Derived.Test.YtjjedebjbgpimaaGreatKNet4
import Derived.Deep.DeepCutAuto
import Derived.Deep.RegionHeld3
import Derived.Deep.QuietTactic
import Derived.BigQuiet
import Derived.Test.YtjjedebjbgpimaaGreatKReg
namespace Go.Proofs.YtjjedebjbgpimaaGreat
open Go.RowKit Mile
set_option maxRecDepth 100000
theorem elemA_lit4 (b j : Nat) : elemA (some ⟨b, 0, none⟩) j 4 = ⟨b, j * 4, none⟩ := by simp [elemA, Addr.add_lit]
theorem rd_blk4 {w : World} {b : Nat} {T : TypeId} {cs : List Value} (h : Blk w b T cs) (hl : cs.length = 4 := by rfl) : Rd w 4 (.slice (some ⟨b, 0, none⟩) 1 1) 1 cs := by
  refine ⟨by omega, some ⟨b, 0, none⟩, 1, rfl, Nat.le_refl _, by unfold maxLen; omega, fun h => (by cases h), fun ad had => ?_⟩
  cases had
  refine ⟨fun _ => rfl, fun j u hj => ?_⟩
  rw [Addr.add_lit, Nat.zero_add]
  exact h.cell j hj
theorem eqN_row (L : List Ar) (a : Ar) : eqN L a = eqR (outL L a.f) a.t := by
  unfold eqN eqR outL
  rw [List.filter_filter]
  refine congrArg (fun p => List.filter p L) (funext fun b => ?_)
  by_cases c : b.f = a.f <;> by_cases d : b.t = a.t <;> simp [c, d]
theorem c4_set (R : List Ar) (i : Nat) (hi : i < R.length) (a : Ar) : (R.flatMap c4).take (i * 4) ++ c4 a ++ (R.flatMap c4).drop (i * 4 + 4) = (R.set i a).flatMap c4 := by
  have h1 : i * 4 + 4 = (i + 1) * 4 := by omega
  rw [h1, c4_take, c4_drop, List.set_eq_take_append_cons_drop, if_pos hi, List.flatMap_append, List.flatMap_cons, List.append_assoc]
section
variable {w w' : World} {p n ob ib : Nat} {oa ia : Nat → Option Addr} {oc ic : Nat → Nat} {ro : Nat → List Ar} {ri : Nat → List Int}
theorem NM.inO {v : Nat} {R' : List Ar} {G : Nat → Prop} (h : NM w p n ob ib oa ia oc ic ro ri) (hv : v < n) (hl : R'.length = (ro v).length) (ho : w'.ownsRow 0 50 4 (.slice (oa v) (ro v).length (oc v)) (ro v).length (R'.flatMap c4)) (hm : Mod G w w') (hG : ∀ k, G k → (Value.slice (oa v) 0 0).ownBlock = some k) :
    NM w' p n ob ib oa ia oc ic (upN ro v R') ri := by
  have hGA : ∀ k, G k → BlT w k 50 := fun k hk => h.tyo hv (hG k hk)
  have hlu : ∀ u, (upN ro v R' u).length = (ro u).length := fun u => by
    by_cases hu : u = v
    · subst hu; rw [upN_at, hl]
    · rw [upN_ne _ _ hu]
  refine ⟨h.blk.keep hm (fun e => (BlT.blk h.blk).ne (hGA p e) (by decide) rfl), ?_, h.ib.keep hm (fun e => (BlT.blk h.ib).ne (hGA ib e) (by decide) rfl), fun u hu => ?_, fun u hu => ?_, h.oap, h.iap⟩
  · have h5 := h.ob.keep hm (fun e => (BlT.blk h.ob).ne (hGA ob e) (by decide) rfl)
    have e : (fun v_1 => Value.slice (oa v_1) (upN ro v R' v_1).length (oc v_1)) = fun u => .slice (oa u) (ro u).length (oc u) := funext fun u => by rw [hlu u]
    rw [e]; exact h5
  · rw [hlu u]
    by_cases huv : u = v
    · subst huv; rw [upN_at]; exact ho
    · rw [upN_ne _ _ huv]
      exact Own.keep (h.ow u hu) hm (fun k hk e => h.oap u v hu hv huv k (by rw [← hk]; exact own_slice _ _ _ _ _) (hG k e))
  · exact Own.keep (h.iw u hu) hm (fun k hk e => (BlT.own (h.iw u hu) hk).ne (hGA k e) (by decide) rfl)
end
def RowQ (w0 : World) (s : Value) (T : TypeId) (e n : Nat) (xs : List Value) : Value → World → Prop := fun v W => (∃ a c, v = .slice a n c) ∧ W.ownsRow 0 T e v n xs ∧ Mod (fun k => s.ownBlock = some k) w0 W ∧ ∀ k, v.ownBlock = some k → s.ownBlock = some k ∨ w0.heap.size ≤ k
theorem RowQ.st {w0 : World} {s : Value} {T : TypeId} {e n : Nat} {xs : List Value} : ∀ v w w', RowQ w0 s T e n xs v w → Mod (fun _ => False) w w' → RowQ w0 s T e n xs v w' := fun _ _ _ ⟨h, o, m, q⟩ mm => ⟨h, Own.keep o mm (fun _ _ e => e), m.trans mm (fun _ _ e => e) (fun _ _ e => e.elim), q⟩
def put7_F (w5 : World) (p g ib n tn fn lm : Nat) (ia : Nat → Option Addr) (ic : Nat → Nat) (L : List Ar) : List (Bool × (Value → World → Prop)) :=
  [(true, IsV (.pointer (some ⟨p, 0, none⟩))),
   (true, IsV (.pointer (some ⟨p, 0, none⟩))),
   (true, IsV (.pointer (some ⟨p, 1, none⟩))),
   (true, IsV (.slice (some ⟨ib, 0, none⟩) n n)),
   (true, IsV (.pointer (some ⟨g, 1, none⟩))),
   (true, IsV (.int .i64 (tn : Int))),
   (true, IsV (.pointer (some ⟨p, 0, none⟩))),
   (true, IsV (.pointer (some ⟨p, 0, none⟩))),
   (true, IsV (.pointer (some ⟨p, 1, none⟩))),
   (true, IsV (.slice (some ⟨ib, 0, none⟩) n n)),
   (true, IsV (.pointer (some ⟨g, 1, none⟩))),
   (true, IsV (.int .i64 (tn : Int))),
   (true, IsV (.pointer (some ⟨ib, tn, none⟩))),
   (true, IsV (.slice (ia tn) lm (ic tn))),
   (true, IsV (.pointer (some ⟨g, 0, none⟩))),
   (true, IsV (.int .i64 (fn : Int))),
   (false, RowQ w5 (.slice (ia tn) lm (ic tn)) 3 1 (newI (inF L (tn : Int)) (fn : Int)).length ((newI (inF L (tn : Int)) (fn : Int)).map (Value.int .i64))),
   (true, IsV (.pointer (some ⟨ib, tn, none⟩)))]
def put7_D : List (List Nat) := [[], [0], [1], [2], [], [4], [], [6], [7], [8], [], [10], [9, 11], [12], [], [14], [13, 15], [3, 5]]
def put7_C : List Nat := [1000, 1000, 1000, 1000, 1000, 1000, 1000, 1000, 1000, 1000, 1000, 1000, 1000, 1000, 1000, 1000, 1000, 1000]
section
variable {w : World} {p n : Nat} {L : List Ar} {F : Nat → Prop}
def putOk (n : Nat) (L : List Ar) (a : Ar) : Bool := decide (mayA n a) && putB L a
def putR (n : Nat) (L : List Ar) (a : Ar) : List Ar := if mayA n a then putN L a else L
set_option maxHeartbeats 16000000 in
theorem nt_put (h : NT w p n L F) (f t v m : Int) : Calls Tryz.prog 58 #[.pointer (some ⟨p, 0, none⟩), .agg #[.int .i64 f, .int .i64 t, .int .i64 v, .int .i64 m]] w fun e w' => e = .returned (.bool (putOk n L ⟨f, t, v, m⟩)) ∧ NQ p n (putR n L ⟨f, t, v, m⟩) F w w' := by
  obtain ⟨g, hg⟩ : ∃ y, w.heap.size = y := ⟨_, rfl⟩
  obtain ⟨wA, hwA⟩ : ∃ y, w.alloc (.cells #[.int .i64 f, .int .i64 t, .int .i64 v, .int .i64 m] 50) = y := ⟨_, rfl⟩
  have hgA : Blk wA g 50 [.int .i64 f, .int .i64 t, .int .i64 v, .int .i64 m] := by rw [← hwA, ← hg]; exact Blk.new w 50 [.int .i64 f, .int .i64 t, .int .i64 v, .int .i64 m]
  have hmA : Mod (fun _ => False) w wA := by rw [← hwA]; exact Mod.alloc _ _ _
  have hA := h.later hmA
  have hlF : ∀ k, F k → k < w.heap.size := fun k hk => h.lt k hk
  have hgF : ¬ F g := fun e => by have := hlF g e; omega
  have HG := Lib.hid hg
  have HMA := Lib.hid hmA
  have HGA := Lib.hid hgA
  have g0 := hgA.cell 0 rfl
  have g1 := hgA.cell 1 rfl
  have g2 := hgA.cell 2 rfl
  have g3 := hgA.cell 3 rfl
  by_cases hmay : mayA n ⟨f, t, v, m⟩
  case neg =>
    have HFI := Lib.hid (nt_fits hA f t v m false (decide_eq_false hmay))
    have hpo : putOk n L ⟨f, t, v, m⟩ = false := by unfold putOk; rw [decide_eq_false hmay]; rfl
    have hpr : putR n L ⟨f, t, v, m⟩ = L := if_neg hmay
    rw [hpo, hpr]
    have HH := Lib.hid h
    clear hmay hpo hpr hA hmA hgA h
    go_enter Tryz.func58, Tryz.ntmps58
    go_upto_region 1 with fail
    (try rw [hwA])
    (try rw [hg])
    clear hwA hg
    go_wp2_with fail
    refine HFI.out.mono ?_
    rintro e w2 ⟨rfl, hm2⟩
    have HM2 := Lib.hid hm2
    clear hm2
    go_wp2_with fail
    go_ret
    exact ⟨rfl, NQ.same HH.out (HMA.out.of2 HM2.out)⟩
  case pos =>
    have HFI := Lib.hid (nt_fits hA f t v m true (decide_eq_true hmay))
    have hmayc := hmay
    unfold mayA at hmayc
    simp only at hmayc
    obtain ⟨fn, rfl⟩ := Int.eq_ofNat_of_zero_le hmayc.1
    obtain ⟨tn, rfl⟩ := Int.eq_ofNat_of_zero_le hmayc.2.2.1
    have hfn : fn < n := by omega
    have htn : tn < n := by omega
    have hft : fn ≠ tn := by have := hmayc.2.2.2.2.1; omega
    have hpo : putOk n L ⟨(fn : Int), (tn : Int), v, m⟩ = putB L ⟨(fn : Int), (tn : Int), v, m⟩ := by unfold putOk; rw [decide_eq_true hmay]; rfl
    have hpr : putR n L ⟨(fn : Int), (tn : Int), v, m⟩ = putN L ⟨(fn : Int), (tn : Int), v, m⟩ := if_pos hmay
    rw [hpo, hpr]
    have hok := h.ok
    have h512 := h.n512
    have hok2 := hok.put hmay
    have hrise := outL_rise hok.sort (fn : Int)
    have hlen := outL_len hok (fn : Int)
    have hmem := @isR_mem L (fn : Int) (tn : Int)
    obtain ⟨_, _, ob, ib, oa, ia, oc, ic, hn, rfl⟩ := h
    have hnA := hn.later hmA
    have hpl := nt_place wA (oa fn) _ (oc fn) (outL L (fn : Int)) rfl (Rd.ofOwn (hnA.ow fn hfn)) hrise (by omega) (tn : Int)
    obtain ⟨iA, hiA, hzA, hsA, hbA⟩ := info_parts Nt.infoA
    obtain ⟨iS, hiS, hzS, hsS, hbS⟩ := info_parts Nt.infoSA
    obtain ⟨iT, hiT, hzT, hsT, hbT⟩ := info_parts Nt.infoSI
    have hix := fun wx => run_indexS (P := Tryz.prog) wx 88 34 iS 1 Tryz.underlying88 hiS hsS (some ⟨ob, 0, none⟩) n n fn hfn (by simp)
    rw [elemA_lit] at hix
    have hiy := fun wx => run_indexS (P := Tryz.prog) wx 89 40 iT 1 Tryz.underlying89 hiT hsT (some ⟨ib, 0, none⟩) n n tn htn (by simp)
    rw [elemA_lit] at hiy
    obtain ⟨is, his⟩ : ∃ b, isR (outL L (fn : Int)) (tn : Int) = b := ⟨_, rfl⟩
    obtain ⟨ps, hps⟩ : ∃ x, posR (outL L (fn : Int)) (tn : Int) = x := ⟨_, rfl⟩
    rw [his, hps] at hpl
    have HPL := Lib.hid (fun W (mm : Mod (fun _ => False) wA W) => (by have hh := nt_place W (oa fn) _ (oc fn) (outL L (fn : Int)) rfl (Rd.ofOwn ((hn.later (hmA.of2 mm)).ow fn hfn)) hrise (by omega) (tn : Int); rw [his, hps] at hh; exact hh))
    have HOK := Lib.hid hok
    have HOK2 := Lib.hid hok2
    have HMEM := Lib.hid hmem
    have HPS := Lib.hid hps
    have HRISE := Lib.hid hrise
    have HNA := Lib.hid hnA
    have HN := Lib.hid hn
    have HLF := Lib.hid hlF
    have HGF := Lib.hid hgF
    have HLEN := Lib.hid hlen
    obtain ⟨ln, hln⟩ : ∃ x, (outL L (fn : Int)).length = x := ⟨_, rfl⟩
    rw [hln] at HPL
    have HLN := Lib.hid hln
    clear hpl hok hok2 hmem hps hrise hnA hlF hgF hlen hmay hmayc hpo hpr hA hgA hmA hn hln
    go_enter Tryz.func58, Tryz.ntmps58
    go_upto_region 1 with fail
    (try rw [hwA])
    (try rw [hg])
    clear hwA hg
    go_wp2_with fail
    refine HFI.out.mono ?_
    rintro e w2 ⟨rfl, hm2⟩
    have HM2 := Lib.hid hm2
    have hn2 := HNA.out.later hm2
    have hg2 := HGA.out.keep hm2 (fun e => e)
    clear g0 g1 g2 g3
    have ap0 := (hn2).blk.cell 0 rfl
    have ap1 := (hn2).blk.cell 1 rfl
    have ao := (hn2).ocell hfn
    have ai := (hn2).icell htn
    have ag0 := (hg2).cell 0 rfl
    have ag1 := (hg2).cell 1 rfl
    have ag2 := (hg2).cell 2 rfl
    have ag3 := (hg2).cell 3 rfl
    rw [HLN.out] at ao
    have HN2 := Lib.hid hn2
    have HG2 := Lib.hid hg2
    clear hn2 hg2 hm2 HFI
    go_wp2_with fail
    go_quiet (fail)
    obtain ⟨w3, hw3⟩ : ∃ y, World.drewN w2 nq = y := ⟨_, rfl⟩
    have hm3 : Mod (fun _ => False) w2 w3 := by rw [← hw3]; exact Mod.drewN _ _ _
    (try rw [hw3])
    have hn3 := HN2.out.later hm3
    have hg3 := HG2.out.keep hm3 (fun e => e)
    clear ap0 ap1 ao ai ag0 ag1 ag2 ag3
    have bp0 := (hn3).blk.cell 0 rfl
    have bp1 := (hn3).blk.cell 1 rfl
    have bo := (hn3).ocell hfn
    have bi := (hn3).icell htn
    have bg0 := (hg3).cell 0 rfl
    have bg1 := (hg3).cell 1 rfl
    have bg2 := (hg3).cell 2 rfl
    have bg3 := (hg3).cell 3 rfl
    rw [HLN.out] at bo
    have HN3 := Lib.hid hn3
    have HG3 := Lib.hid hg3
    have HM3 := Lib.hid (HM2.out.of2 hm3)
    clear hw3 hm3 hn3 hg3
    go_wp2_with fail
    refine (HPL.out _ HM3.out).mono ?_
    rintro e w4 ⟨rfl, hm4⟩
    have hn4 := HN3.out.later hm4
    have hg4 := HG3.out.keep hm4 (fun e => e)
    clear bp0 bp1 bo bi bg0 bg1 bg2 bg3
    have cp0 := (hn4).blk.cell 0 rfl
    have cp1 := (hn4).blk.cell 1 rfl
    have co := (hn4).ocell hfn
    have ci := (hn4).icell htn
    have cg0 := (hg4).cell 0 rfl
    have cg1 := (hg4).cell 1 rfl
    have cg2 := (hg4).cell 2 rfl
    have cg3 := (hg4).cell 3 rfl
    rw [HLN.out] at co
    have HN4 := Lib.hid hn4
    have HG4 := Lib.hid hg4
    have HM4 := Lib.hid (HM3.out.of2 hm4)
    clear hm4 hn4 hg4 HPL
    have HIS := Lib.hid his
    clear his
    cases is with
    | false =>
      have HISF : Hid (isR (outL L (fn : Int)) (⟨(fn : Int), (tn : Int), v, m⟩ : Ar).t = false) := HIS
      go_wp2_with fail
      have lob := HN4.out.ob.lt
      have lib := HN4.out.ib.lt
      have lp := HN4.out.blk.lt
      have lg := HG4.out.lt
      have fob := HN4.out.ob.free fn
      have hins : ∀ (W : World), Mod (fun _ => False) w4 W → ∀ gv, Blk W gv 50 [.int .i64 (fn : Int), .int .i64 (tn : Int), .int .i64 v, .int .i64 m] → w4.heap.size ≤ gv → Calls Tryz.prog 94 #[.slice (oa fn) ln (oc fn), .int .i64 (ps : Int), .slice (some ⟨gv, 0, none⟩) 1 1] W fun e w' => InsAP (oa fn) ln (oc fn) ps ((outL L (fn : Int)).flatMap c4) (c4 ⟨(fn : Int), (tn : Int), v, m⟩) W e w' := fun W mm gv hb hlo => by
        have h1 := (HN4.out.later mm).ow fn hfn
        rw [HLN.out] at h1
        have h2 := HLEN.out
        rw [HLN.out] at h2
        exact insA_any W (oa fn) ln (oc fn) ps _ (c4_one _) h1 (by omega) gv (c4 ⟨(fn : Int), (tn : Int), v, m⟩) (rd_blk4 hb) hb (by intro u hu; simp [c4] at hu; rcases hu with rfl | rfl | rfl | rfl <;> rfl) (fun e => by have h3 := (HN4.out.tyo hfn (by rw [← e]; exact own_slice _ _ _ _ _)).lt; omega) (by rw [← HPS.out, ← HLN.out]; exact posR_le _ _)
      have HINS := Lib.hid hins
      clear hins
      go_upto_region 6 with fail
      go_cut [40] (fun _ wx => ∃ a' c', NM wx p n ob ib (upN oa fn a') ia (upN oc fn c') ic (upN (fun v => outL L (v : Int)) fn (newR (outL L (fn : Int)) ⟨(fn : Int), (tn : Int), v, m⟩)) (fun v => inF L (v : Int)) ∧ Mod (fun k => k = ob ∨ (Value.slice (oa fn) 0 0).ownBlock = some k) w4 wx ∧ ∀ k, (Value.slice a' 0 0).ownBlock = some k → (Value.slice (oa fn) 0 0).ownBlock = some k ∨ w4.heap.size ≤ k)
      case first =>
        go_region_law (go_simp; go_at_call 94; refine (HINS.out _ ((Mod.drew (fun _ => False) w4).thenAlloc _) _ (Blk.new w4.drew 50 [.int .i64 (fn : Int), .int .i64 (tn : Int), .int .i64 v, .int .i64 m]) (Nat.le_refl _)).mono ?_; rintro e w5 ⟨a5, c5, rfl, ho5, hm5, hnw5⟩; have hmz := (Mod.drew (fun _ => False) w4).thenAlloc (.cells #[.int .i64 (fn : Int), .int .i64 (tn : Int), .int .i64 v, .int .i64 m] 50); have hb5 := (HN4.out.later hmz).blk.keep hm5 (fun e => (BlT.blk HN4.out.blk).ne (HN4.out.tyo hfn (by rw [← e]; exact own_slice _ _ _ _ _)) (by decide) rfl); have hob5 := (HN4.out.later hmz).ob.keep hm5 (fun e => (BlT.blk HN4.out.ob).ne (HN4.out.tyo hfn (by rw [← e]; exact own_slice _ _ _ _ _)) (by decide) rfl); have hgg5 := (HG4.out.keep hmz (fun e => e)).keep hm5 (fun e => HGF.out (.inr (.inr (.inr (.inl ⟨fn, hfn, by rw [← e]; exact own_slice _ _ _ _ _⟩))))); have yp0 := hb5.cell 0 rfl; have yg0 := hgg5.cell 0 rfl; have yof := hob5.cell fn (by rw [List.getElem?_map, List.getElem?_range hfn]; rfl); have yff := hob5.free fn; have ylt := hob5.lt; have HO5 := Lib.hid ho5; have HM5 := Lib.hid hm5; have HNW5 := Lib.hid hnw5; clear ho5 hm5 hnw5 hb5 hob5 hgg5)
        all_goals
          (try go_wp2_with fail)
          have hmz2 := (Mod.drew (fun _ => False) w4).thenAlloc (.cells #[.int .i64 (fn : Int), .int .i64 (tn : Int), .int .i64 v, .int .i64 m] 50)
          have hres : ((outL L (fn : Int)).flatMap c4).take (ps * 4) ++ c4 ⟨(fn : Int), (tn : Int), v, m⟩ ++ ((outL L (fn : Int)).flatMap c4).drop (ps * 4) = (newR (outL L (fn : Int)) ⟨(fn : Int), (tn : Int), v, m⟩).flatMap c4 := by
            rw [← newR_insert HRISE.out HISF.out, HPS.out, c4_take, c4_drop, List.flatMap_append, List.flatMap_cons, List.append_assoc]
          have hrl : (newR (outL L (fn : Int)) ⟨(fn : Int), (tn : Int), v, m⟩).length = ln + 1 := by
            rw [← newR_insert HRISE.out HISF.out, HPS.out, List.length_append, List.length_cons, List.length_take, List.length_drop, HLN.out]
            have h3 := posR_le (outL L (fn : Int)) (tn : Int)
            rw [HPS.out, HLN.out] at h3
            omega
          have ho6 := HO5.out
          rw [hres] at ho6
          have hst := (HN4.out.later hmz2).setO (v := fn) (a' := a5) (c' := c5) (R' := newR (outL L (fn : Int)) ⟨(fn : Int), (tn : Int), v, m⟩) hfn (by rw [hrl]; exact ho6) HM5.out (fun k hk => by rw [← hk]; exact own_slice _ _ _ _ _) (fun k hk => (HNW5.out k (by rw [← hk]; exact own_slice _ _ _ _ _)).imp (fun e => by rw [← e]; exact own_slice _ _ _ _ _) id)
          rw [hrl] at hst
          go_meet
          exact ⟨a5, c5, hst.1, hmz2.trans hst.2 (fun _ _ e => e.elim) (fun _ _ e => e), fun k hk => (HNW5.out k (by rw [← hk]; exact own_slice _ _ _ _ _)).imp (fun e => by rw [← e]; exact own_slice _ _ _ _ _) (fun e => Nat.le_trans (by simp) e)⟩
      case rest =>
        obtain ⟨a5, c5, hn5, hm5, hnw5⟩ := hcut
        obtain ⟨w5, hw5⟩ : ∃ s : World, s = wc := ⟨_, rfl⟩
        subst hw5
        have hgne : g ≠ ob ∧ (Value.slice (oa fn) 0 0).ownBlock ≠ some g := ⟨fun e => HGF.out (.inr (.inl e)), fun e => HGF.out (.inr (.inr (.inr (.inl ⟨fn, hfn, e⟩))))⟩
        have hg5 := HG4.out.keep hm5 (fun e => e.elim hgne.1 hgne.2)
        have dp1 := hn5.blk.cell 1 rfl
        have di := hn5.icell htn
        have dg0 := hg5.cell 0 rfl
        have dg1 := hg5.cell 1 rfl
        obtain ⟨lm, hlm⟩ : ∃ x, (inF L (tn : Int)).length = x := ⟨_, rfl⟩
        have hlm5 : lm ≤ n := by rw [← hlm]; exact inF_len HOK.out (tn : Int)
        rw [hlm] at di
        have HLM := Lib.hid hlm
        clear hlm cp0 cp1 co ci cg0 cg1 cg2 cg3 lob lib lp lg fob
        have hnot : (fn : Int) ∉ inF L (tn : Int) := fun e => by
          have h1 := HMEM.out.2 (mem_inF.1 e)
          have h2 := HIS.out
          rw [h1] at h2; cases h2
        have HNOT := Lib.hid hnot
        clear hnot hgne
        have hwi : ∀ (W : World), Mod (fun _ => False) w5 W → Calls Tryz.prog 95 #[.slice (ia tn) lm (ic tn), .int .i64 (fn : Int)] W fun e w' => RowIP (ia tn) lm (ic tn) (newI (inF L (tn : Int)) (fn : Int)) W e w' := fun W mm => by
          have h1 := (hn5.later mm).iw tn htn
          rw [HLM.out] at h1
          exact nt_with W (ia tn) lm (ic tn) _ HLM.out h1 (inF_rise HOK.out.sort _) (by omega) _ HNOT.out
        have HWI := Lib.hid hwi
        have HN5 := Lib.hid hn5
        have HG5 := Lib.hid hg5
        have HM5 := Lib.hid hm5
        have HNW5 := Lib.hid hnw5
        clear hwi hn5 hg5 hm5 hnw5
        go_upto_region 7 with fail
        have HRD : Hid (∀ W, Mod (fun k => (Value.slice (ia tn) lm (ic tn)).ownBlock = some k) (World.drew w5) W → Blk W p 91 [.slice (some ⟨ob, 0, none⟩) n n, .slice (some ⟨ib, 0, none⟩) n n] ∧ Blk W g 50 [.int .i64 (fn : Int), .int .i64 (tn : Int), .int .i64 v, .int .i64 m] ∧ Blk W ib 40 ((List.range n).map fun v => .slice (ia v) (inF L (v : Int)).length (ic v))) := Lib.hid (fun W mm => by
          have hk : ∀ k, (Value.slice (ia tn) lm (ic tn)).ownBlock = some k → BlT w5 k 3 := fun k hk => HN5.out.tyi htn (by rw [← hk]; exact own_slice _ _ _ _ _)
          have mz : Mod (fun k => (Value.slice (ia tn) lm (ic tn)).ownBlock = some k) w5 W := (Mod.drew _ w5).trans mm (fun _ _ e => e) (fun _ _ e => e)
          exact ⟨HN5.out.blk.keep mz (fun e => (BlT.blk HN5.out.blk).ne (hk _ e) (by decide) rfl), HG5.out.keep mz (fun e => HGF.out (.inr (.inr (.inr (.inr ⟨tn, htn, by rw [← e]; exact own_slice _ _ _ _ _⟩))))), HN5.out.ib.keep mz (fun e => (BlT.blk HN5.out.ib).ne (hk _ e) (by decide) rfl)⟩)
        have HIY := Lib.hid hiy
        clear hiy
        have HTN := Lib.hid htn
        have HST : ∀ (ix : Nat) (vx : Value) (wx wy : World), factOf (put7_F w5 p g ib n tn fn lm ia ic L) ix vx wx → Mod (fun _ => False) wx wy → factOf (put7_F w5 p g ib n tn fn lm ia ic L) ix vx wy := by
          refine fact_stays ?_
          intro f hf
          simp only [put7_F, List.mem_cons, List.not_mem_nil, or_false] at hf
          rcases hf with rfl | rfl | rfl | rfl | rfl | rfl | rfl | rfl | rfl | rfl | rfl | rfl | rfl | rfl | rfl | rfl | rfl | rfl <;> first | exact stable_val _ | exact stable_new | exact RowQ.st
        have HSO : ∀ px ∈ (put7_F w5 p g ib n tn fn lm ia ic L), px.1 = true → ∀ (vx : Value) (wx wy : World), px.2 vx wx → px.2 vx wy := by
          intro f hf
          simp only [put7_F, List.mem_cons, List.not_mem_nil, or_false] at hf
          rcases hf with rfl | rfl | rfl | rfl | rfl | rfl | rfl | rfl | rfl | rfl | rfl | rfl | rfl | rfl | rfl | rfl | rfl | rfl <;> first | exact fun _ _ _ _ h => h | (intro h; cases h)
        refine wp_region_mut (Mod (fun k => (Value.slice (ia tn) lm (ic tn)).ownBlock = some k)) (factOf (put7_F w5 p g ib n tn fn lm ia ic L)) (fun i => put7_C.getD i 1000) (Mod (fun _ => False) (World.drew w5)) 16 (fun i => put7_D.getD i []) 18 _ rfl rfl (by kernel_rfl) (by kernel_rfl) (by kernel_rfl) (by kernel_rfl) (by kernel_rfl) (fun _ => Mod.refl _ _)
          (fun _ _ _ h k => h.trans k (fun _ _ e => e) (fun _ _ e => e)) (Mod.refl _ _) ?_ ?_
        · refine opsOkM_cons ?_ ?_
          · intro K vs W hR hD hI hL hK
            clear hD
            clear hL
            clear hI
            simp only [putAll, Nat.zero_add, Nat.reduceAdd, Act.put, List.setIfInBounds_toArray, List.set_cons_succ, List.set_cons_zero] at hK ⊢
            go_wp2
            exact hK _ _ rfl (fun _ _ _ h => h) (fun _ _ h => h) (Mod.refl _ _)
          refine opsOkM_cons ?_ ?_
          · intro K vs W hR hD hI hL hK
            have dq0 : vs 0 = .pointer (some ⟨p, 0, none⟩) := hD 0 (by decide)
            clear hD
            clear hL
            clear hI
            simp only [putAll, Nat.zero_add, Nat.reduceAdd, Act.put, List.setIfInBounds_toArray, List.set_cons_succ, List.set_cons_zero] at hK ⊢
            generalize vs 0 = vq0 at hK dq0 ⊢
            subst vq0
            go_wp2
            exact hK _ _ rfl (fun _ _ _ h => h) (fun _ _ h => h) (Mod.refl _ _)
          refine opsOkM_cons ?_ ?_
          · intro K vs W hR hD hI hL hK
            have dq1 : vs 1 = .pointer (some ⟨p, 0, none⟩) := hD 1 (by decide)
            clear hD
            clear hL
            clear hI
            simp only [putAll, Nat.zero_add, Nat.reduceAdd, Act.put, List.setIfInBounds_toArray, List.set_cons_succ, List.set_cons_zero] at hK ⊢
            generalize vs 1 = vq1 at hK dq1 ⊢
            subst vq1
            go_wp2
            exact hK _ _ rfl (fun _ _ _ h => h) (fun _ _ h => h) (Mod.refl _ _)
          refine opsOkM_cons ?_ ?_
          · intro K vs W hR hD hI hL hK
            have dq2 : vs 2 = .pointer (some ⟨p, 1, none⟩) := hD 2 (by decide)
            clear hD
            clear hL
            clear hI
            simp only [putAll, Nat.zero_add, Nat.reduceAdd, Act.put, List.setIfInBounds_toArray, List.set_cons_succ, List.set_cons_zero] at hK ⊢
            generalize vs 2 = vq2 at hK dq2 ⊢
            subst vq2
            have q0 := (HRD.out _ hR).1.cell 1 rfl
            go_wp2
            exact hK _ _ rfl (fun _ _ _ h => h) (fun _ _ h => h) (Mod.refl _ _)
          refine opsOkM_cons ?_ ?_
          · intro K vs W hR hD hI hL hK
            clear hD
            clear hL
            clear hI
            simp only [putAll, Nat.zero_add, Nat.reduceAdd, Act.put, List.setIfInBounds_toArray, List.set_cons_succ, List.set_cons_zero] at hK ⊢
            go_wp2
            exact hK _ _ rfl (fun _ _ _ h => h) (fun _ _ h => h) (Mod.refl _ _)
          refine opsOkM_cons ?_ ?_
          · intro K vs W hR hD hI hL hK
            have dq4 : vs 4 = .pointer (some ⟨g, 1, none⟩) := hD 4 (by decide)
            clear hD
            clear hL
            clear hI
            simp only [putAll, Nat.zero_add, Nat.reduceAdd, Act.put, List.setIfInBounds_toArray, List.set_cons_succ, List.set_cons_zero] at hK ⊢
            generalize vs 4 = vq4 at hK dq4 ⊢
            subst vq4
            have q0 := (HRD.out _ hR).2.1.cell 1 rfl
            go_wp2
            exact hK _ _ rfl (fun _ _ _ h => h) (fun _ _ h => h) (Mod.refl _ _)
          refine opsOkM_cons ?_ ?_
          · intro K vs W hR hD hI hL hK
            clear hD
            clear hL
            clear hI
            simp only [putAll, Nat.zero_add, Nat.reduceAdd, Act.put, List.setIfInBounds_toArray, List.set_cons_succ, List.set_cons_zero] at hK ⊢
            go_wp2
            exact hK _ _ rfl (fun _ _ _ h => h) (fun _ _ h => h) (Mod.refl _ _)
          refine opsOkM_cons ?_ ?_
          · intro K vs W hR hD hI hL hK
            have dq6 : vs 6 = .pointer (some ⟨p, 0, none⟩) := hD 6 (by decide)
            clear hD
            clear hL
            clear hI
            simp only [putAll, Nat.zero_add, Nat.reduceAdd, Act.put, List.setIfInBounds_toArray, List.set_cons_succ, List.set_cons_zero] at hK ⊢
            generalize vs 6 = vq6 at hK dq6 ⊢
            subst vq6
            go_wp2
            exact hK _ _ rfl (fun _ _ _ h => h) (fun _ _ h => h) (Mod.refl _ _)
          refine opsOkM_cons ?_ ?_
          · intro K vs W hR hD hI hL hK
            have dq7 : vs 7 = .pointer (some ⟨p, 0, none⟩) := hD 7 (by decide)
            clear hD
            clear hL
            clear hI
            simp only [putAll, Nat.zero_add, Nat.reduceAdd, Act.put, List.setIfInBounds_toArray, List.set_cons_succ, List.set_cons_zero] at hK ⊢
            generalize vs 7 = vq7 at hK dq7 ⊢
            subst vq7
            go_wp2
            exact hK _ _ rfl (fun _ _ _ h => h) (fun _ _ h => h) (Mod.refl _ _)
          refine opsOkM_cons ?_ ?_
          · intro K vs W hR hD hI hL hK
            have dq8 : vs 8 = .pointer (some ⟨p, 1, none⟩) := hD 8 (by decide)
            clear hD
            clear hL
            clear hI
            simp only [putAll, Nat.zero_add, Nat.reduceAdd, Act.put, List.setIfInBounds_toArray, List.set_cons_succ, List.set_cons_zero] at hK ⊢
            generalize vs 8 = vq8 at hK dq8 ⊢
            subst vq8
            have q0 := (HRD.out _ hR).1.cell 1 rfl
            go_wp2
            exact hK _ _ rfl (fun _ _ _ h => h) (fun _ _ h => h) (Mod.refl _ _)
          refine opsOkM_cons ?_ ?_
          · intro K vs W hR hD hI hL hK
            clear hD
            clear hL
            clear hI
            simp only [putAll, Nat.zero_add, Nat.reduceAdd, Act.put, List.setIfInBounds_toArray, List.set_cons_succ, List.set_cons_zero] at hK ⊢
            go_wp2
            exact hK _ _ rfl (fun _ _ _ h => h) (fun _ _ h => h) (Mod.refl _ _)
          refine opsOkM_cons ?_ ?_
          · intro K vs W hR hD hI hL hK
            have dq10 : vs 10 = .pointer (some ⟨g, 1, none⟩) := hD 10 (by decide)
            clear hD
            clear hL
            clear hI
            simp only [putAll, Nat.zero_add, Nat.reduceAdd, Act.put, List.setIfInBounds_toArray, List.set_cons_succ, List.set_cons_zero] at hK ⊢
            generalize vs 10 = vq10 at hK dq10 ⊢
            subst vq10
            have q0 := (HRD.out _ hR).2.1.cell 1 rfl
            go_wp2
            exact hK _ _ rfl (fun _ _ _ h => h) (fun _ _ h => h) (Mod.refl _ _)
          refine opsOkM_cons ?_ ?_
          · intro K vs W hR hD hI hL hK
            have dq9 : vs 9 = .slice (some ⟨ib, 0, none⟩) n n := hD 9 (by decide)
            have dq11 : vs 11 = .int .i64 (tn : Int) := hD 11 (by decide)
            clear hD
            clear hL
            clear hI
            simp only [putAll, Nat.zero_add, Nat.reduceAdd, Act.put, List.setIfInBounds_toArray, List.set_cons_succ, List.set_cons_zero] at hK ⊢
            generalize vs 9 = vq9 at hK dq9 ⊢
            subst vq9
            generalize vs 11 = vq11 at hK dq11 ⊢
            subst vq11
            have hiy := HIY.out
            go_wp2_with fail
            exact hK _ _ rfl (fun _ _ _ h => h) (fun _ _ h => h) (Mod.refl _ _)
          refine opsOkM_cons ?_ ?_
          · intro K vs W hR hD hI hL hK
            have dq12 : vs 12 = .pointer (some ⟨ib, tn, none⟩) := hD 12 (by decide)
            clear hD
            clear hL
            clear hI
            simp only [putAll, Nat.zero_add, Nat.reduceAdd, Act.put, List.setIfInBounds_toArray, List.set_cons_succ, List.set_cons_zero] at hK ⊢
            generalize vs 12 = vq12 at hK dq12 ⊢
            subst vq12
            have q0 := (HRD.out _ hR).2.2.cell tn (by rw [List.getElem?_map, List.getElem?_range HTN.out]; rfl)
            simp only [HLM.out] at q0
            go_wp2
            exact hK _ _ rfl (fun _ _ _ h => h) (fun _ _ h => h) (Mod.refl _ _)
          refine opsOkM_cons ?_ ?_
          · intro K vs W hR hD hI hL hK
            clear hD
            clear hL
            clear hI
            simp only [putAll, Nat.zero_add, Nat.reduceAdd, Act.put, List.setIfInBounds_toArray, List.set_cons_succ, List.set_cons_zero] at hK ⊢
            go_wp2
            exact hK _ _ rfl (fun _ _ _ h => h) (fun _ _ h => h) (Mod.refl _ _)
          refine opsOkM_cons ?_ ?_
          · intro K vs W hR hD hI hL hK
            have dq14 : vs 14 = .pointer (some ⟨g, 0, none⟩) := hD 14 (by decide)
            clear hD
            clear hL
            clear hI
            simp only [putAll, Nat.zero_add, Nat.reduceAdd, Act.put, List.setIfInBounds_toArray, List.set_cons_succ, List.set_cons_zero] at hK ⊢
            generalize vs 14 = vq14 at hK dq14 ⊢
            subst vq14
            have q0 := (HRD.out _ hR).2.1.cell 0 rfl
            go_wp2
            exact hK _ _ rfl (fun _ _ _ h => h) (fun _ _ h => h) (Mod.refl _ _)
          refine opsOkM_cons ?_ ?_
          · intro K vs W hR hD hI hL hK
            have dq13 : vs 13 = .slice (ia tn) lm (ic tn) := hD 13 (by decide)
            have dq15 : vs 15 = .int .i64 (fn : Int) := hD 15 (by decide)
            clear hD
            clear hL
            replace hI := hI (.inl rfl)
            simp only [putAll, Nat.zero_add, Nat.reduceAdd, Act.put, List.setIfInBounds_toArray, List.set_cons_succ, List.set_cons_zero] at hK ⊢
            generalize vs 13 = vq13 at hK dq13 ⊢
            subst vq13
            generalize vs 15 = vq15 at hK dq15 ⊢
            subst vq15
            go_wp2_with (go_at_call 95; refine (HWI.out _ ((Mod.drew _ _).of2 hI)).mono ?_; rintro e' w' ⟨a6, c6, rfl, ho6, hm6, hnw6⟩)
            have hmI := (Mod.drew (fun _ => False) w5).of2 hI
            exact hK _ _ ⟨⟨a6, c6, rfl⟩, ho6, hmI.trans hm6 (fun _ _ e => e.elim) (fun _ _ e => e), fun k hk => (hnw6 k hk).imp id (fun e => Nat.le_trans hmI.size e)⟩ (fact_solid HSO 16 (by kernel_rfl)) (fun h _ => absurd rfl h) hm6
          refine opsOkM_cons ?_ ?_
          · intro K vs W hR hD hI hL hK
            have dq3 : vs 3 = .slice (some ⟨ib, 0, none⟩) n n := hD 3 (by decide)
            have dq5 : vs 5 = .int .i64 (tn : Int) := hD 5 (by decide)
            clear hD
            clear hL
            clear hI
            simp only [putAll, Nat.zero_add, Nat.reduceAdd, Act.put, List.setIfInBounds_toArray, List.set_cons_succ, List.set_cons_zero] at hK ⊢
            generalize vs 3 = vq3 at hK dq3 ⊢
            subst vq3
            generalize vs 5 = vq5 at hK dq5 ⊢
            subst vq5
            have hiy := HIY.out
            go_wp2_with fail
            exact hK _ _ rfl (fun _ _ _ h => h) (fun _ _ h => h) (Mod.refl _ _)
          exact opsOkM_nil
        · intro vs W hR hF
          have dq16 : (RowQ w5 (.slice (ia tn) lm (ic tn)) 3 1 (newI (inF L (tn : Int)) (fn : Int)).length ((newI (inF L (tn : Int)) (fn : Int)).map (Value.int .i64))) (vs 16) W := hF 16 (by decide) (by decide)
          have dq17 : vs 17 = .pointer (some ⟨ib, tn, none⟩) := hF 17 (by decide) (by decide)
          clear hF
          simp only [putAll, Nat.zero_add, Nat.reduceAdd, Act.put, List.setIfInBounds_toArray, List.set_cons_succ, List.set_cons_zero]
          generalize vs 16 = vq16 at dq16 ⊢
          generalize vs 17 = vq17 at dq17 ⊢
          subst vq17
          obtain ⟨⟨a6, c6, rfl⟩, ho6, hm6, hnw6⟩ := dq16
          have yib := (HRD.out _ hR).2.2
          have ylt := yib.lt
          have yff := yib.free tn
          have yof := yib.cell tn (by rw [List.getElem?_map, List.getElem?_range htn]; rfl)
          have hst := HN5.out.setI (v := tn) (a' := a6) (c' := c6) (R' := newI (inF L (tn : Int)) (fn : Int)) htn ho6 hm6 (fun k hk => by rw [← hk]; exact own_slice _ _ _ _ _) (fun k hk => (hnw6 k (by rw [← hk]; exact own_slice _ _ _ _ _)).imp (fun e => by rw [← e]; exact own_slice _ _ _ _ _) id)
          have HN6 := Lib.hid hst.1
          have HM6 := Lib.hid hst.2
          have HNW6 : Hid (∀ k, (Value.slice a6 0 0).ownBlock = some k → (Value.slice (ia tn) 0 0).ownBlock = some k ∨ w5.heap.size ≤ k) := Lib.hid (fun k hk => (hnw6 k (by rw [← hk]; exact own_slice _ _ _ _ _)).imp (fun e => by rw [← e]; exact own_slice _ _ _ _ _) id)
          clear hst ho6 hm6 hnw6 yib hR dp1 di dg0 dg1
          go_wp2_with fail
          go_ret
          have heq : eqN L ⟨(fn : Int), (tn : Int), v, m⟩ = [] := by
            rw [eqN_row]
            have h2 := HIS.out
            rw [isR_eq] at h2
            simpa using h2
          have hpb : putB L ⟨(fn : Int), (tn : Int), v, m⟩ = true := by unfold putB; rw [heq]; rfl
          have hpn : putN L ⟨(fn : Int), (tn : Int), v, m⟩ = newN L ⟨(fn : Int), (tn : Int), v, m⟩ := by unfold putN; rw [if_pos hpb]
          have hok2 := HOK2.out
          rw [hpn] at hok2 ⊢
          rw [hpb]
          have e1 : upN (fun v : Nat => outL L (v : Int)) fn (newR (outL L (fn : Int)) ⟨(fn : Int), (tn : Int), v, m⟩) = fun z : Nat => outL (newN L ⟨(fn : Int), (tn : Int), v, m⟩) (z : Int) := funext fun u => by
            rw [outL_new HOK.out.sort]
            by_cases hu : u = fn
            · subst hu; rw [upN_at, if_pos rfl]
            · rw [upN_ne _ _ hu, if_neg (by show ¬ ((u : Int) = (fn : Int)); omega)]
          have e2 : upN (fun v : Nat => inF L (v : Int)) tn (newI (inF L (tn : Int)) (fn : Int)) = fun z : Nat => inF (newN L ⟨(fn : Int), (tn : Int), v, m⟩) (z : Int) := funext fun u => by
            rw [inF_new HOK.out.sort]
            by_cases hu : u = tn
            · subst hu; rw [upN_at, if_pos rfl]
            · rw [upN_ne _ _ hu, if_neg (by show ¬ ((u : Int) = (tn : Int)); omega)]
          have hn6 := HN6.out
          rw [e1, e2] at hn6
          have hs4 : w.heap.size ≤ w4.heap.size := Nat.le_trans HMA.out.size HM4.out.size
          have hs5 := HM5.out.size
          refine ⟨rfl, nmF p ob ib n (upN oa fn a5) (upN ia tn a6), ⟨hok2, h512, ob, ib, _, _, _, _, hn6, rfl⟩, fun k hk => ?_, ?_⟩
          · rcases hk with e | e | e | ⟨u, hu, e⟩ | ⟨u, hu, e⟩
            · exact .inl (.inl e)
            · exact .inl (.inr (.inl e))
            · exact .inl (.inr (.inr (.inl e)))
            · by_cases huf : u = fn
              · subst huf
                rw [upN_at] at e
                exact (HNW5.out k e).imp (fun e => .inr (.inr (.inr (.inl ⟨u, hu, e⟩)))) (fun e => by omega)
              · rw [upN_ne _ _ huf] at e
                exact .inl (.inr (.inr (.inr (.inl ⟨u, hu, e⟩))))
            · by_cases huf : u = tn
              · subst huf
                rw [upN_at] at e
                exact (HNW6.out k e).imp (fun e => .inr (.inr (.inr (.inr ⟨u, hu, e⟩)))) (fun e => by omega)
              · rw [upN_ne _ _ huf] at e
                exact .inl (.inr (.inr (.inr (.inr ⟨u, hu, e⟩))))
          · exact ((((HMA.out.of2 HM4.out).trans HM5.out (H := nmF p ob ib n oa ia) (fun _ _ e => e.elim) (fun k _ e => e.elim (fun e => .inr (.inl e)) (fun e => .inr (.inr (.inr (.inl ⟨fn, hfn, e⟩))))))).trans HM6.out (fun _ _ e => e) (fun k _ e => e.elim (fun e => .inr (.inr (.inl e))) (fun e => .inr (.inr (.inr (.inr ⟨tn, htn, e⟩))))))
    | true =>
      have hp := posR_lt HRISE.out HIS.out
      rw [HPS.out] at hp
      obtain ⟨hp1, b, hp2, hp3, hp4⟩ := hp
      have hpl : ps < ln := by rw [← HLN.out]; exact hp1
      have how := HN4.out.ow fn hfn
      rw [HLN.out] at how
      obtain ⟨eb, eo, hpe, e0, e1, e2, e3⟩ := rd4 (Rd.ofOwn how) ps hp1
      have hbe : (outL L (fn : Int))[ps] = b := by rw [List.getElem?_eq_getElem hp1] at hp2; exact Option.some.inj hp2
      rw [hbe] at e0 e1 e2 e3
      have hiz := fun wx => run_indexS (P := Tryz.prog) wx 34 50 iA 4 Tryz.underlying34 hiA hsA (oa fn) ln (oc fn) ps hpl ((Rd.ofOwn how).some_ (by omega))
      rw [hpe] at hiz
      have heq : eqN L ⟨(fn : Int), (tn : Int), v, m⟩ = [b] := by
        obtain ⟨b2, h2, _, h4⟩ := isR_true HRISE.out HIS.out
        have h5 : (outL L (fn : Int))[ps]? = some b2 := by
          rw [← HPS.out]
          have h6 : (outL L (fn : Int))[posR (outL L (fn : Int)) (tn : Int)]? = (ltR (outL L (fn : Int)) (tn : Int) ++ b2 :: gtR (outL L (fn : Int)) (tn : Int))[(ltR (outL L (fn : Int)) (tn : Int)).length]? := by unfold posR; rw [← h2]
          rw [h6, List.getElem?_append_right (Nat.le_refl _), Nat.sub_self]; rfl
        rw [h5] at hp2
        rw [eqN_row, ← Option.some.inj hp2]
        exact h4
      obtain ⟨bw, hbw⟩ : ∃ x, b.w = x := ⟨_, rfl⟩
      rw [hbw] at e2
      have hpb : putB L ⟨(fn : Int), (tn : Int), v, m⟩ = decide (v < bw) := by unfold putB; rw [heq]; simp [hbw]
      have HPB := Lib.hid hpb
      have HOW := Lib.hid how
      have HPE := Lib.hid hpe
      have HP1 := Lib.hid hp1
      clear hp2 hp3 hp4 hbe heq hpb how hpe hp1 hbw
      by_cases hw : bw ≤ v
      · skip
        have z0 : decide (bw ≤ v) = true := by simpa using hw
        go_upto_region 9 with fail
        go_quiet (fail)
        obtain ⟨w5, hw5⟩ : ∃ y, World.drewN w4 nq = y := ⟨_, rfl⟩
        have hm5 : Mod (fun _ => False) w4 w5 := by rw [← hw5]; exact Mod.drewN _ _ _
        (try rw [hw5])
        have hn5 := HN4.out.later hm5
        have hg5 := HG4.out.keep hm5 (fun e => e)
        clear hw5
        have HM5 := Lib.hid (HM4.out.of2 hm5)
        clear hm5 hn5 hg5
        go_wp2_with fail
        go_ret
        have hpb : putB L ⟨(fn : Int), (tn : Int), v, m⟩ = false := by rw [HPB.out]; exact decide_eq_false (by omega)
        have hpn : putN L ⟨(fn : Int), (tn : Int), v, m⟩ = L := by unfold putN; rw [hpb]; rfl
        rw [hpb, hpn]
        have hnt : NT w p n L (nmF p ob ib n oa ia) := ⟨HOK.out, h512, ob, ib, oa, ia, oc, ic, HN.out, rfl⟩
        exact ⟨rfl, NQ.same hnt (HMA.out.of2 HM5.out)⟩
      · skip
        have z0 : decide (bw ≤ v) = false := by simpa using hw
        go_upto_region 9 with fail
        go_quiet (fail)
        obtain ⟨w5, hw5⟩ : ∃ y, World.drewN w4 nq = y := ⟨_, rfl⟩
        have hm5 : Mod (fun _ => False) w4 w5 := by rw [← hw5]; exact Mod.drewN _ _ _
        (try rw [hw5])
        have hn5 := HN4.out.later hm5
        have hg5 := HG4.out.keep hm5 (fun e => e)
        clear hw5
        have how5 := hn5.ow fn hfn
        rw [HLN.out] at how5
        have hoa : ∃ gr, oa fn = some ⟨gr, 0, none⟩ := by
          obtain ⟨_, h | ⟨g2, cap, cur, he, _⟩⟩ := how5
          · cases h.2; omega
          · injection he with h1 _ _; exact ⟨g2, h1⟩
        obtain ⟨gr, hgr⟩ := hoa
        have hpe2 := HPE.out
        rw [hgr, elemA_lit4] at hpe2
        obtain ⟨rfl, rfl⟩ : gr = eb ∧ ps * 4 = eo := by injection hpe2 with h1 h2; exact ⟨h1, h2⟩
        rw [hgr] at how5
        have hroom := fun j (hj : j < ln * 4) => Room.ofOwn how5 j hj
        have f0 := (hroom (ps * 4) (by omega)).free
        have f1 := (hroom (ps * 4 + 1) (by omega)).free
        have f2 := (hroom (ps * 4 + 2) (by omega)).free
        have f3 := (hroom (ps * 4 + 3) (by omega)).free
        have x0 := hm5.cell e0 (fun e => e)
        have x1 := hm5.cell e1 (fun e => e)
        have x2 := hm5.cell e2 (fun e => e)
        have x3 := hm5.cell e3 (fun e => e)
        have lgr := (hroom (ps * 4) (by omega)).lt
        have yg0 := hg5.cell 0 rfl
        have yg1 := hg5.cell 1 rfl
        have yg2 := hg5.cell 2 rfl
        have yg3 := hg5.cell 3 rfl
        have hput := own_put [.int .i64 (fn : Int), .int .i64 (tn : Int), .int .i64 v, .int .i64 m] (ps * 4) w5 _ how5 (by simp; omega)
        have hcs := c4_set (outL L (fn : Int)) ps HP1.out ⟨(fn : Int), (tn : Int), v, m⟩
        have hput2 : (w5.setCells gr (ps * 4) [.int .i64 (fn : Int), .int .i64 (tn : Int), .int .i64 v, .int .i64 m]).ownsRow 0 50 4 (.slice (some ⟨gr, 0, none⟩) ln (oc fn)) ln (((outL L (fn : Int)).set ps ⟨(fn : Int), (tn : Int), v, m⟩).flatMap c4) := by rw [← hcs]; exact hput
        have hset : (outL L (fn : Int)).set ps ⟨(fn : Int), (tn : Int), v, m⟩ = newR (outL L (fn : Int)) ⟨(fn : Int), (tn : Int), v, m⟩ := by rw [← HPS.out]; exact newR_set (a := ⟨(fn : Int), (tn : Int), v, m⟩) HRISE.out HIS.out
        rw [hset] at hput2
        have HPUT := Lib.hid hput2
        have HN5 := Lib.hid hn5
        have HM5 := Lib.hid hm5
        have HGR := Lib.hid hgr
        have HSET := Lib.hid hset
        clear hput hcs hput2 hset hn5 hm5 how5 hroom hg5 hpe2 e0 e1 e2 e3 hgr cp0 cp1 co ci cg0 cg1 cg2 cg3
        go_wp2_with fail
        go_ret
        have hpb : putB L ⟨(fn : Int), (tn : Int), v, m⟩ = true := by rw [HPB.out]; exact decide_eq_true (by omega)
        have hpn : putN L ⟨(fn : Int), (tn : Int), v, m⟩ = newN L ⟨(fn : Int), (tn : Int), v, m⟩ := by unfold putN; rw [if_pos hpb]
        have hok2 := HOK2.out
        rw [hpn] at hok2 ⊢
        rw [hpb]
        have hms : Mod (fun k => k = gr) w5 (w5.setCells gr (ps * 4) [.int .i64 (fn : Int), .int .i64 (tn : Int), .int .i64 v, .int .i64 m]) := setCells_mod _ _ _
        have hin := HN5.out.inO (v := fn) (R' := newR (outL L (fn : Int)) ⟨(fn : Int), (tn : Int), v, m⟩) hfn (by rw [← HSET.out, List.length_set]) (by rw [HLN.out, HGR.out]; exact HPUT.out) hms (fun k e => by rw [HGR.out, e]; rfl)
        have e1 : upN (fun v : Nat => outL L (v : Int)) fn (newR (outL L (fn : Int)) ⟨(fn : Int), (tn : Int), v, m⟩) = fun z : Nat => outL (newN L ⟨(fn : Int), (tn : Int), v, m⟩) (z : Int) := funext fun u => by
          rw [outL_new HOK.out.sort]
          by_cases hu : u = fn
          · subst hu; rw [upN_at, if_pos rfl]
          · rw [upN_ne _ _ hu, if_neg (by show ¬ ((u : Int) = (fn : Int)); omega)]
        have e2 : (fun v : Nat => inF L (v : Int)) = fun z : Nat => inF (newN L ⟨(fn : Int), (tn : Int), v, m⟩) (z : Int) := funext fun u => by
          rw [inF_new HOK.out.sort]
          by_cases hu : u = tn
          · subst hu
            rw [if_pos rfl]
            exact (splitI (inF_rise HOK.out.sort _) _).1 (mem_inF.2 (HMEM.out.1 HIS.out))
          · rw [if_neg (by show ¬ ((u : Int) = (tn : Int)); omega)]
        rw [e1, e2] at hin
        exact ⟨rfl, nmF p ob ib n oa ia, ⟨hok2, h512, ob, ib, _, _, _, _, hin, rfl⟩, fun k hk => .inl hk, ((HMA.out.of2 HM4.out).of2 HM5.out).trans hms (fun _ _ e => e.elim) (fun k _ e => .inr (.inr (.inr (.inl ⟨fn, hfn, by rw [HGR.out, e]; rfl⟩))))⟩
end
end Go.Proofs.YtjjedebjbgpimaaGreat
