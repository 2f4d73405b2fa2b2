/- Nets: fits, Arc, Out, In, by contract. -/
import Derived.Test.YtjjedebjbgpimaaGreatKIns
import Derived.Lib.AppendZerosOnto
namespace Go.Proofs.YtjjedebjbgpimaaGreat
open Go.RowKit Mile
set_option maxRecDepth 100000
abbrev arV (b : Ar) : Value := .agg #[.int .i64 b.f, .int .i64 b.t, .int .i64 b.w, .int .i64 b.m]
section
variable {w w' : World} {p n : Nat} {L : List Ar} {F : Nat → Prop}
theorem nt_fits (h : NT w p n L F) (f t v m : Int) (r : Bool) (hr : decide (mayA n ⟨f, t, v, m⟩) = r) : Calls Tryz.prog 86 #[.pointer (some ⟨p, 0, none⟩), .agg #[.int .i64 f, .int .i64 t, .int .i64 v, .int .i64 m]] w fun e w' => e = .returned (.bool r) ∧ Mod (fun _ => False) w w' := by
 obtain ⟨g, hg⟩ : ∃ y, w.heap.size = y := ⟨_, rfl⟩
 obtain ⟨wA, hwA⟩ : ∃ y, w.alloc (.cells #[.int .i64 f, .int .i64 t, .int .i64 v, .int .i64 m] 50) = y := ⟨_, rfl⟩
 have hgA : Blk wA g 50 [.int .i64 f, .int .i64 t, .int .i64 v, .int .i64 m] := by rw [← hwA, ← hg]; exact Blk.new w 50 [.int .i64 f, .int .i64 t, .int .i64 v, .int .i64 m]
 have hmA : Mod (fun _ => False) w wA := by rw [← hwA]; exact Mod.alloc _ _ _
 have hA := h.later hmA
 have HF := Lib.hid (fun b hb => nt_has hA f b hb)
 have HT := Lib.hid (fun b hb => nt_has hA t b hb)
 have HM := Lib.hid (fun b hb => nt_has hA m b hb)
 have g0 := hgA.cell 0 rfl
 have g1 := hgA.cell 1 rfl
 have g2 := hgA.cell 2 rfl
 have g3 := hgA.cell 3 rfl
 have HMA := Lib.hid hmA
 have hmay : decide (mayA n ⟨f, t, v, m⟩) = decide (0 ≤ f ∧ f < (n : Int) ∧ 0 ≤ t ∧ t < (n : Int) ∧ f ≠ t ∧ 1 ≤ v ∧ v ≤ 1099511627776 ∧ (m = -1 ∨ (0 ≤ m ∧ m < (n : Int) ∧ m ≠ f ∧ m ≠ t))) := rfl
 rw [hmay] at hr
 clear h hA hmA hgA hmay
 by_cases cf : 0 ≤ f ∧ f < (n : Int)
 ·
  skip
  by_cases ct : 0 ≤ t ∧ t < (n : Int)
  ·
   skip
   by_cases cft : f = t
   ·
    skip
    have zcft : (f != t) = false := by simp; exact cft
    have hrr : r = false := by rw [← hr]; exact decide_eq_false (by omega)
    subst hrr
    clear hr
    have HC0 := Lib.hid (HF.out true (decide_eq_true (by omega)))
    have HC1 := Lib.hid (HT.out true (decide_eq_true (by omega)))
    clear HF HT HM
    clear cf ct cft
    go_enter Tryz.func86, Tryz.ntmps86
    go_upto_region 1 with fail
    (try rw [hwA])
    (try rw [hg])
    clear hwA hg
    go_wp2_with fail
    refine HC0.out.mono ?_
    rintro e w' ⟨rfl, rfl⟩
    go_wp2_with fail
    refine HC1.out.mono ?_
    rintro e w' ⟨rfl, rfl⟩
    go_wp2_with fail
    go_ret
    exact ⟨rfl, HMA.out⟩
   ·
    skip
    by_cases c1 : 1 ≤ v
    ·
     skip
     by_cases c2 : v ≤ 1099511627776
     ·
      skip
      by_cases cm : m = -1
      ·
       skip
       have zcft : (f != t) = true := by simp; exact cft
       have zc1 : decide (1 ≤ v) = true := decide_eq_true c1
       have zc2 : decide (v ≤ 1099511627776) = true := decide_eq_true c2
       have zcm : (m == -1) = true := by simp; exact cm
       have hrr : r = true := by rw [← hr]; exact decide_eq_true (by omega)
       subst hrr
       clear hr
       have HC0 := Lib.hid (HF.out true (decide_eq_true (by omega)))
       have HC1 := Lib.hid (HT.out true (decide_eq_true (by omega)))
       clear HF HT HM
       clear cf ct cft c1 c2 cm
       go_enter Tryz.func86, Tryz.ntmps86
       go_upto_region 1 with fail
       (try rw [hwA])
       (try rw [hg])
       clear hwA hg
       go_wp2_with fail
       refine HC0.out.mono ?_
       rintro e w' ⟨rfl, rfl⟩
       go_wp2_with fail
       refine HC1.out.mono ?_
       rintro e w' ⟨rfl, rfl⟩
       go_wp2_with fail
       go_ret
       exact ⟨rfl, HMA.out⟩
      ·
       skip
       by_cases chm : 0 ≤ m ∧ m < (n : Int)
       ·
        skip
        by_cases cmf : m = f
        ·
         skip
         have zcft : (f != t) = true := by simp; exact cft
         have zc1 : decide (1 ≤ v) = true := decide_eq_true c1
         have zc2 : decide (v ≤ 1099511627776) = true := decide_eq_true c2
         have zcm : (m == -1) = false := by simp; exact cm
         have zcmf : (m != f) = false := by simp; exact cmf
         have hrr : r = false := by rw [← hr]; exact decide_eq_false (by omega)
         subst hrr
         clear hr
         have HC0 := Lib.hid (HF.out true (decide_eq_true (by omega)))
         have HC1 := Lib.hid (HT.out true (decide_eq_true (by omega)))
         have HC2 := Lib.hid (HM.out true (decide_eq_true (by omega)))
         clear HF HT HM
         clear cf ct cft c1 c2 cm chm cmf
         go_enter Tryz.func86, Tryz.ntmps86
         go_upto_region 1 with fail
         (try rw [hwA])
         (try rw [hg])
         clear hwA hg
         go_wp2_with fail
         refine HC0.out.mono ?_
         rintro e w' ⟨rfl, rfl⟩
         go_wp2_with fail
         refine HC1.out.mono ?_
         rintro e w' ⟨rfl, rfl⟩
         go_wp2_with fail
         refine HC2.out.mono ?_
         rintro e w' ⟨rfl, rfl⟩
         go_wp2_with fail
         go_ret
         exact ⟨rfl, HMA.out⟩
        ·
         skip
         by_cases cmt : m = t
         ·
          skip
          have zcft : (f != t) = true := by simp; exact cft
          have zc1 : decide (1 ≤ v) = true := decide_eq_true c1
          have zc2 : decide (v ≤ 1099511627776) = true := decide_eq_true c2
          have zcm : (m == -1) = false := by simp; exact cm
          have zcmf : (m != f) = true := by simp; exact cmf
          have zcmt : (m != t) = false := by simp; exact cmt
          have hrr : r = false := by rw [← hr]; exact decide_eq_false (by omega)
          subst hrr
          clear hr
          have HC0 := Lib.hid (HF.out true (decide_eq_true (by omega)))
          have HC1 := Lib.hid (HT.out true (decide_eq_true (by omega)))
          have HC2 := Lib.hid (HM.out true (decide_eq_true (by omega)))
          clear HF HT HM
          clear cf ct cft c1 c2 cm chm cmf cmt
          go_enter Tryz.func86, Tryz.ntmps86
          go_upto_region 1 with fail
          (try rw [hwA])
          (try rw [hg])
          clear hwA hg
          go_wp2_with fail
          refine HC0.out.mono ?_
          rintro e w' ⟨rfl, rfl⟩
          go_wp2_with fail
          refine HC1.out.mono ?_
          rintro e w' ⟨rfl, rfl⟩
          go_wp2_with fail
          refine HC2.out.mono ?_
          rintro e w' ⟨rfl, rfl⟩
          go_wp2_with fail
          go_ret
          exact ⟨rfl, HMA.out⟩
         ·
          skip
          have zcft : (f != t) = true := by simp; exact cft
          have zc1 : decide (1 ≤ v) = true := decide_eq_true c1
          have zc2 : decide (v ≤ 1099511627776) = true := decide_eq_true c2
          have zcm : (m == -1) = false := by simp; exact cm
          have zcmf : (m != f) = true := by simp; exact cmf
          have zcmt : (m != t) = true := by simp; exact cmt
          have hrr : r = true := by rw [← hr]; exact decide_eq_true (by omega)
          subst hrr
          clear hr
          have HC0 := Lib.hid (HF.out true (decide_eq_true (by omega)))
          have HC1 := Lib.hid (HT.out true (decide_eq_true (by omega)))
          have HC2 := Lib.hid (HM.out true (decide_eq_true (by omega)))
          clear HF HT HM
          clear cf ct cft c1 c2 cm chm cmf cmt
          go_enter Tryz.func86, Tryz.ntmps86
          go_upto_region 1 with fail
          (try rw [hwA])
          (try rw [hg])
          clear hwA hg
          go_wp2_with fail
          refine HC0.out.mono ?_
          rintro e w' ⟨rfl, rfl⟩
          go_wp2_with fail
          refine HC1.out.mono ?_
          rintro e w' ⟨rfl, rfl⟩
          go_wp2_with fail
          refine HC2.out.mono ?_
          rintro e w' ⟨rfl, rfl⟩
          go_wp2_with fail
          go_ret
          exact ⟨rfl, HMA.out⟩
       ·
        skip
        have zcft : (f != t) = true := by simp; exact cft
        have zc1 : decide (1 ≤ v) = true := decide_eq_true c1
        have zc2 : decide (v ≤ 1099511627776) = true := decide_eq_true c2
        have zcm : (m == -1) = false := by simp; exact cm
        have hrr : r = false := by rw [← hr]; exact decide_eq_false (by omega)
        subst hrr
        clear hr
        have HC0 := Lib.hid (HF.out true (decide_eq_true (by omega)))
        have HC1 := Lib.hid (HT.out true (decide_eq_true (by omega)))
        have HC2 := Lib.hid (HM.out false (decide_eq_false (by omega)))
        clear HF HT HM
        clear cf ct cft c1 c2 cm chm
        go_enter Tryz.func86, Tryz.ntmps86
        go_upto_region 1 with fail
        (try rw [hwA])
        (try rw [hg])
        clear hwA hg
        go_wp2_with fail
        refine HC0.out.mono ?_
        rintro e w' ⟨rfl, rfl⟩
        go_wp2_with fail
        refine HC1.out.mono ?_
        rintro e w' ⟨rfl, rfl⟩
        go_wp2_with fail
        refine HC2.out.mono ?_
        rintro e w' ⟨rfl, rfl⟩
        go_wp2_with fail
        go_ret
        exact ⟨rfl, HMA.out⟩
     ·
      skip
      have zcft : (f != t) = true := by simp; exact cft
      have zc1 : decide (1 ≤ v) = true := decide_eq_true c1
      have zc2 : decide (v ≤ 1099511627776) = false := decide_eq_false c2
      have hrr : r = false := by rw [← hr]; exact decide_eq_false (by omega)
      subst hrr
      clear hr
      have HC0 := Lib.hid (HF.out true (decide_eq_true (by omega)))
      have HC1 := Lib.hid (HT.out true (decide_eq_true (by omega)))
      clear HF HT HM
      clear cf ct cft c1 c2
      go_enter Tryz.func86, Tryz.ntmps86
      go_upto_region 1 with fail
      (try rw [hwA])
      (try rw [hg])
      clear hwA hg
      go_wp2_with fail
      refine HC0.out.mono ?_
      rintro e w' ⟨rfl, rfl⟩
      go_wp2_with fail
      refine HC1.out.mono ?_
      rintro e w' ⟨rfl, rfl⟩
      go_wp2_with fail
      go_ret
      exact ⟨rfl, HMA.out⟩
    ·
     skip
     have zcft : (f != t) = true := by simp; exact cft
     have zc1 : decide (1 ≤ v) = false := decide_eq_false c1
     have hrr : r = false := by rw [← hr]; exact decide_eq_false (by omega)
     subst hrr
     clear hr
     have HC0 := Lib.hid (HF.out true (decide_eq_true (by omega)))
     have HC1 := Lib.hid (HT.out true (decide_eq_true (by omega)))
     clear HF HT HM
     clear cf ct cft c1
     go_enter Tryz.func86, Tryz.ntmps86
     go_upto_region 1 with fail
     (try rw [hwA])
     (try rw [hg])
     clear hwA hg
     go_wp2_with fail
     refine HC0.out.mono ?_
     rintro e w' ⟨rfl, rfl⟩
     go_wp2_with fail
     refine HC1.out.mono ?_
     rintro e w' ⟨rfl, rfl⟩
     go_wp2_with fail
     go_ret
     exact ⟨rfl, HMA.out⟩
  ·
   skip
   have hrr : r = false := by rw [← hr]; exact decide_eq_false (by omega)
   subst hrr
   clear hr
   have HC0 := Lib.hid (HF.out true (decide_eq_true (by omega)))
   have HC1 := Lib.hid (HT.out false (decide_eq_false (by omega)))
   clear HF HT HM
   clear cf ct
   go_enter Tryz.func86, Tryz.ntmps86
   go_upto_region 1 with fail
   (try rw [hwA])
   (try rw [hg])
   clear hwA hg
   go_wp2_with fail
   refine HC0.out.mono ?_
   rintro e w' ⟨rfl, rfl⟩
   go_wp2_with fail
   refine HC1.out.mono ?_
   rintro e w' ⟨rfl, rfl⟩
   go_wp2_with fail
   go_ret
   exact ⟨rfl, HMA.out⟩
 ·
  skip
  have hrr : r = false := by rw [← hr]; exact decide_eq_false (by omega)
  subst hrr
  clear hr
  have HC0 := Lib.hid (HF.out false (decide_eq_false (by omega)))
  clear HF HT HM
  clear cf
  go_enter Tryz.func86, Tryz.ntmps86
  go_upto_region 1 with fail
  (try rw [hwA])
  (try rw [hg])
  clear hwA hg
  go_wp2_with fail
  refine HC0.out.mono ?_
  rintro e w' ⟨rfl, rfl⟩
  go_wp2_with fail
  go_ret
  exact ⟨rfl, HMA.out⟩

theorem nt_row_tmp {P : Program} {fn : Func} {p u : Tmp} {ty : TypeId} (h : fn.results = #[.cell p ty, .tmp u]) (tmps : Array Value) (w : World) (g : Nat) (t : TypeId) (cs : Array Value) (fr : Nat × Nat) (d : TypeDesc)
  (hp : tmps.getD p undef = .pointer (some ⟨g, 0, none⟩)) (hg : w.heap[g]? = some (.cells cs t fr))
  (hu : P.underlying ty = some d) (hd : (match d with | .struct _ | .array _ _ => true | _ => false) = true) (hi : (P.info? ty).map (·.size) = some cs.size) :
  (results fn tmps).run P w = .ok (.tuple #[.agg cs, tmps.getD u undef]) w := by
 rw [results_cell_tmp h, hp]
 simp [asAddr, run_loadVar_row w g t ty cs fr d hg hu hd hi]
theorem nt_set4 (w : World) (g : Nat) (v0 v1 v2 v3 : Value) : Mod (fun k => k = g) w ((((w.setCell ⟨g, 0, none⟩ v0).setCell ⟨g, 1, none⟩ v1).setCell ⟨g, 2, none⟩ v2).setCell ⟨g, 3, none⟩ v3) := by
 have s := fun (w : World) (i : Nat) (v : Value) => (Mod.setCell (F := fun k => k = g) w ⟨g, i, none⟩ v rfl)
 have j : ∀ {w1 w2 w3 : World}, Mod (fun k => k = g) w1 w2 → Mod (fun k => k = g) w2 w3 → Mod (fun k => k = g) w1 w3 := fun a b => a.trans b (fun _ _ e => e) (fun _ _ e => e)
 exact j (j (j (s _ _ _) (s _ _ _)) (s _ _ _)) (s _ _ _)
theorem elemA_lit (b j : Nat) : elemA (some ⟨b, 0, none⟩) j 1 = ⟨b, j, none⟩ := by simp [elemA, Addr.add_lit]
theorem Nt.infoSA : (Tryz.prog.info? 34).map (fun i => (i.zero, i.size, i.bytes)) = some (some (.slice none 0 0), 1, 24) := by kernel_rfl
theorem Nt.infoSI : (Tryz.prog.info? 40).map (fun i => (i.zero, i.size, i.bytes)) = some (some (.slice none 0 0), 1, 24) := by kernel_rfl
theorem NT.orow (h : NT w p n L F) (v : Nat) (hv : v < n) : ∃ ob ib a c, w.cell? ⟨p, 0, none⟩ = some (.slice (some ⟨ob, 0, none⟩) n n) ∧ w.cell? ⟨p, 1, none⟩ = some (.slice (some ⟨ib, 0, none⟩) n n) ∧ w.cell? ⟨ob, v, none⟩ = some (.slice a (outL L (v : Int)).length c) ∧ w.ownsRow 0 50 4 (.slice a (outL L (v : Int)).length c) (outL L (v : Int)).length ((outL L (v : Int)).flatMap c4) ∧ (∀ k, (Value.slice a 0 0).ownBlock = some k → F k) := by
 obtain ⟨h1, h2, ob, ib, oa, ia, oc, ic, h, rfl⟩ := h
 exact ⟨ob, ib, oa v, oc v, h.blk.cell 0 rfl, h.blk.cell 1 rfl, h.ocell hv, h.ow v hv, fun k hk => .inr (.inr (.inr (.inl ⟨v, hv, hk⟩)))⟩
theorem NT.irow (h : NT w p n L F) (v : Nat) (hv : v < n) : ∃ ob ib a c, w.cell? ⟨p, 0, none⟩ = some (.slice (some ⟨ob, 0, none⟩) n n) ∧ w.cell? ⟨p, 1, none⟩ = some (.slice (some ⟨ib, 0, none⟩) n n) ∧ w.cell? ⟨ib, v, none⟩ = some (.slice a (inF L (v : Int)).length c) ∧ w.ownsRow 0 3 1 (.slice a (inF L (v : Int)).length c) (inF L (v : Int)).length ((inF L (v : Int)).map (Value.int .i64)) := by
 obtain ⟨h1, h2, ob, ib, oa, ia, oc, ic, h, rfl⟩ := h
 exact ⟨ob, ib, ia v, ic v, h.blk.cell 0 rfl, h.blk.cell 1 rfl, h.icell hv, h.iw v hv⟩
def findN (L : List Ar) (f t : Int) : Option Ar := L.find? fun b => decide (b.f = f ∧ b.t = t)
theorem findN_none {L : List Ar} {f t : Int} (h : ∀ b ∈ L, ¬ (b.f = f ∧ b.t = t)) : findN L f t = none := by
 unfold findN; rw [List.find?_eq_none]; intro b hb; simpa using h b hb
theorem findN_some {L : List Ar} (h : SortN L) {b : Ar} (hb : b ∈ L) : findN L b.f b.t = some b := by
 unfold findN
 induction L with
 | nil => cases hb
 | cons a L ih =>
  obtain ⟨h1, h2⟩ := List.pairwise_cons.1 h
  rcases List.mem_cons.1 hb with rfl | hb
  ·
   rw [List.find?_cons_of_pos (by simp)]
  ·
   have := h1 b hb
   rw [List.find?_cons_of_neg (by simp; unfold keyLt at this; omega)]
   exact ih h2 hb
def arcV : Option Ar → Value
 | some b => .tuple #[arV b, .bool true]
 | none => .tuple #[.agg #[.int .i64 0, .int .i64 0, .int .i64 0, .int .i64 0], .bool false]
set_option maxHeartbeats 4000000 in
theorem nt_arc (h : NT w p n L F) (f t : Int) : Calls Tryz.prog 30 #[.pointer (some ⟨p, 0, none⟩), .int .i64 f, .int .i64 t] w fun e w' => e = .returned (arcV (findN L f t)) ∧ Mod (fun _ => False) w w' := by
 obtain ⟨g, hg⟩ : ∃ y, w.heap.size = y := ⟨_, rfl⟩
 obtain ⟨wA, hwA⟩ : ∃ y, w.alloc (.cells #[.int .i64 0, .int .i64 0, .int .i64 0, .int .i64 0] 50) = y := ⟨_, rfl⟩
 have hgA : Blk wA g 50 [.int .i64 0, .int .i64 0, .int .i64 0, .int .i64 0] := by rw [← hwA, ← hg]; exact Blk.new w 50 [.int .i64 0, .int .i64 0, .int .i64 0, .int .i64 0]
 have hmA : Mod (fun _ => False) w wA := by rw [← hwA]; exact Mod.alloc _ _ _
 have hA := h.later hmA
 have HMA := Lib.hid hmA
 have HG := Lib.hid hg
 by_cases hf : 0 ≤ f ∧ f < (n : Int)
 ·
  obtain ⟨v, rfl⟩ := Int.eq_ofNat_of_zero_le hf.1
  have hv : v < n := by omega
  have HH := Lib.hid (nt_has hA (v : Int) true (decide_eq_true hf))
  obtain ⟨ob, ib, a, c, q0, q1, q2, ho, _⟩ := hA.orow v hv
  have hrise := outL_rise h.ok.sort (v : Int)
  have hlen := outL_len h.ok (v : Int)
  have h512 := h.n512
  obtain ⟨R, hR⟩ : ∃ R, outL L (v : Int) = R := ⟨_, rfl⟩
  have hmem := @isR_mem L (v : Int) t
  have hsub : ∀ b ∈ R, b ∈ L ∧ b.f = (v : Int) := fun b hb => by rw [← hR] at hb; exact mem_outL.1 hb
  rw [hR] at q2 ho hrise hlen hmem
  obtain ⟨ln, hln⟩ : ∃ x, R.length = x := ⟨_, rfl⟩
  rw [hln] at q2 ho hlen
  have HPL := Lib.hid (nt_place wA a ln c R hln (Rd.ofOwn ho) hrise (by omega) t)
  obtain ⟨iA, hiA, hzA, hsA, hbA⟩ := info_parts Nt.infoA
  obtain ⟨iS, hiS, hzS, hsS, hbS⟩ := info_parts Nt.infoSA
  have hix := fun wx => run_indexS (P := Tryz.prog) wx 88 34 iS 1 Tryz.underlying88 hiS hsS (some ⟨ob, 0, none⟩) n n v hv (by simp)
  rw [elemA_lit] at hix
  by_cases hi : isR R t = true
  ·
   obtain ⟨hp1, b, hp2, hp3, hp4⟩ := posR_lt hrise hi
   have hres : findN L (v : Int) t = some b := by
    obtain ⟨e1, e2⟩ := hsub b hp4
    rw [← e2, ← hp3]; exact findN_some h.ok.sort e1
   rw [hres]
   rw [hi] at HPL
   obtain ⟨ps, hps⟩ : ∃ x, posR R t = x := ⟨_, rfl⟩
   rw [hps] at HPL hp1 hp2
   have hpl : ps < ln := by omega
   obtain ⟨eb, eo, hpe, e0, e1, e2, e3⟩ := rd4 (Rd.ofOwn ho) ps hp1
   have hbe : R[ps] = b := by rw [List.getElem?_eq_getElem hp1] at hp2; exact Option.some.inj hp2
   rw [hbe] at e0 e1 e2 e3
   have hiy := fun wx => run_indexS (P := Tryz.prog) wx 34 50 iA 4 Tryz.underlying34 hiA hsA a ln c ps hpl ((Rd.ofOwn ho).some_ (by omega))
   rw [hpe] at hiy
   have HE := Lib.hid (⟨e0, e1, e2, e3, q0, q2⟩ : _ ∧ _ ∧ _ ∧ _ ∧ _ ∧ _)
   have HGA := Lib.hid hgA
   clear hgA hmA hA h hrise hlen hmem hsub hp1 hp2 hp3 hp4 hres hi hpe hbe e0 e1 e2 e3 ho hR hln hps h512 q1 hf
   go_enter Tryz.func30, Tryz.ntmps30
   go_upto_region 1 with fail
   (try rw [hwA])
   (try rw [hg])
   clear hwA hg
   go_wp2_with fail
   refine HH.out.mono ?_
   rintro e w' ⟨rfl, rfl⟩
   go_wp2_with fail
   refine HPL.out.mono ?_
   rintro e w2 ⟨rfl, hm2⟩
   have HM2 := Lib.hid hm2
   have hg2 := HGA.out.keep hm2 (fun e => e)
   have y0 := hg2.cell 0 rfl
   have y1 := hg2.cell 1 rfl
   have y2 := hg2.cell 2 rfl
   have y3 := hg2.cell 3 rfl
   have f0 := hg2.free 0
   have f1 := hg2.free 1
   have f2 := hg2.free 2
   have f3 := hg2.free 3
   have lg := hg2.lt
   have u0 := hm2.cell HE.out.1 (fun e => e)
   have u1 := hm2.cell HE.out.2.1 (fun e => e)
   have u2 := hm2.cell HE.out.2.2.1 (fun e => e)
   have u3 := hm2.cell HE.out.2.2.2.1 (fun e => e)
   have u4 := hm2.cell HE.out.2.2.2.2.1 (fun e => e)
   have u5 := hm2.cell HE.out.2.2.2.2.2 (fun e => e)
   have HG2 := Lib.hid hg2
   clear hm2 hg2 HPL HH q0 q2
   go_wp2_with fail
   have b2 := (((HG2.out.set 0 (.int .i64 b.f)).set 1 (.int .i64 b.t)).set 2 (.int .i64 b.w)).set 3 (.int .i64 b.m)
   refine bodyPost_ret (nt_row_tmp rfl _ _ g 50 #[.int .i64 b.f, .int .i64 b.t, .int .i64 b.w, .int .i64 b.m] (0, 0) _ rfl b2 Tryz.underlying50 rfl (by kernel_rfl)) rfl ?_
   exact ⟨rfl, (HMA.out.of2 HM2.out).old (nt_set4 w2 g _ _ _ _) (fun k e => by rw [e]; exact Nat.le_of_eq HG.out)⟩
  ·
   have hi2 : isR R t = false := by simpa using hi
   have hres : findN L (v : Int) t = none := findN_none fun b hb e => hi (hmem.2 ⟨b, hb, e.1, e.2⟩)
   rw [hres]
   rw [hi2] at HPL
   have HE := Lib.hid (⟨q0, q2⟩ : _ ∧ _)
   have HGA := Lib.hid hgA
   clear hgA hmA hA h hrise hlen hmem hsub hres hi hi2 ho hR hln h512 q1 hf
   go_enter Tryz.func30, Tryz.ntmps30
   go_upto_region 1 with fail
   (try rw [hwA])
   (try rw [hg])
   clear hwA hg
   go_wp2_with fail
   refine HH.out.mono ?_
   rintro e w' ⟨rfl, rfl⟩
   go_wp2_with fail
   refine HPL.out.mono ?_
   rintro e w2 ⟨rfl, hm2⟩
   have HM2 := Lib.hid hm2
   have hg2 := HGA.out.keep hm2 (fun e => e)
   have y0 := hg2.cell 0 rfl
   have y1 := hg2.cell 1 rfl
   have y2 := hg2.cell 2 rfl
   have y3 := hg2.cell 3 rfl
   have f0 := hg2.free 0
   have f1 := hg2.free 1
   have f2 := hg2.free 2
   have f3 := hg2.free 3
   have lg := hg2.lt
   have HG2 := Lib.hid hg2
   clear hm2 hg2 HPL HH q0 q2
   go_wp2_with fail
   have b2 := (((HG2.out.set 0 (.int .i64 0)).set 1 (.int .i64 0)).set 2 (.int .i64 0)).set 3 (.int .i64 0)
   refine bodyPost_ret (nt_row_tmp rfl _ _ g 50 #[.int .i64 0, .int .i64 0, .int .i64 0, .int .i64 0] (0, 0) _ rfl b2 Tryz.underlying50 rfl (by kernel_rfl)) rfl ?_
   exact ⟨rfl, (HMA.out.of2 HM2.out).old (nt_set4 w2 g _ _ _ _) (fun k e => by rw [e]; exact Nat.le_of_eq HG.out)⟩
 ·
  have HH := Lib.hid (nt_has hA f false (decide_eq_false hf))
  have hres : findN L f t = none := findN_none fun b hb e => hf (by have := h.ok.may b hb; unfold mayA at this; omega)
  rw [hres]
  have y0 := hgA.cell 0 rfl
  have y1 := hgA.cell 1 rfl
  have y2 := hgA.cell 2 rfl
  have y3 := hgA.cell 3 rfl
  have f0 := hgA.free 0
  have f1 := hgA.free 1
  have f2 := hgA.free 2
  have f3 := hgA.free 3
  have lg := hgA.lt
  have HGA := Lib.hid hgA
  clear hgA hmA hA h hres hf
  go_enter Tryz.func30, Tryz.ntmps30
  go_upto_region 1 with fail
  (try rw [hwA])
  (try rw [hg])
  clear hwA hg
  go_wp2_with fail
  refine HH.out.mono ?_
  rintro e w' ⟨rfl, rfl⟩
  go_wp2_with fail
  have b2 := (((HGA.out.set 0 (.int .i64 0)).set 1 (.int .i64 0)).set 2 (.int .i64 0)).set 3 (.int .i64 0)
  refine bodyPost_ret (nt_row_tmp rfl _ _ g 50 #[.int .i64 0, .int .i64 0, .int .i64 0, .int .i64 0] (0, 0) _ rfl b2 Tryz.underlying50 rfl (by kernel_rfl)) rfl ?_
  exact ⟨rfl, HMA.out.old (nt_set4 wA g _ _ _ _) (fun k e => by rw [e]; exact Nat.le_of_eq HG.out)⟩
def NewR (T : TypeId) (size n : Nat) (xs : List Value) (w : World) (e : Ending) (w' : World) : Prop :=
 ∃ a c, e = .returned (.slice a n c) ∧ w'.ownsRow w.heap.size T size (.slice a n c) n xs ∧ Mod (fun _ => False) w w'
set_option maxHeartbeats 1000000 in
theorem cloneA_any (w : World) (a : Option Addr) (n c : Nat) (xs : List Ar) (hn : xs.length = n) (hrd : Rd w 4 (.slice a n c) n (xs.flatMap c4)) (hbd : n ≤ 1000000) :
  Calls Tryz.prog 73 #[.slice a n c] w (NewR 50 4 n (xs.flatMap c4) w) := by
 obtain ⟨i0, hi, hz0, hz1, hz2⟩ := info_parts Nt.infoA
 have heq := fun (wx : World) a n c => Lib.run_eql_slice_nil (P := Tryz.prog) wx 34 50 a n c 0 0 Tryz.underlying34
 have h1c := c4_one xs
 have hm1 : 0 + n ≤ maxLen := by unfold maxLen; omega
 have hm2 : (0 + n) * 32 ≤ 140737488355328 := by omega
 have HX := Lib.hid hn
 clear hn
 cases a with
 | none =>
  have hz : n = 0 ∧ c = 0 := by obtain ⟨_, a', c', he, _, _, h3, _⟩ := hrd; cases he; exact h3 rfl
  obtain ⟨rfl, rfl⟩ := hz
  have hx0 : xs = [] := List.eq_nil_of_length_eq_zero HX.out
  subst hx0
  go_enter Tryz.func73, Tryz.ntmps73
  go_wp2
  go_ret
  exact ⟨_, _, rfl, World.ownsRow_nil _ _ _ _, Mod.refl _ _⟩
 | some ad =>
  go_enter Tryz.func73, Tryz.ntmps73
  have hown : (w.alloc (.cells #[] 50)).ownsRow 0 50 4 (.slice (some ⟨w.heap.size, 0, none⟩) 0 0) 0 [] := World.ownsRow_made w #[] 0 (Nat.zero_le _) (Nat.zero_le _) rfl
  go_wp2_with (at_builtin; refine wpList_append_any rfl (.tmp 5) (.tmp 6) 34 rfl 50 i0 (.agg #[.int .i64 0, .int .i64 0, .int .i64 0, .int .i64 0]) 4 32 Tryz.underlying34 hi hz0 hz1 hz2 rfl (by decide) _ 0 [] rfl hown _ n (xs.flatMap c4) rfl (hrd.alloc _) h1c hm1 hm2 ?_; intro v' w' hap)
  go_ret
  obtain ⟨a1, k1, hf⟩ := hap.form
  have ho := hap.own
  have hm := hap.mod
  have hr := hap.row
  simp only [Nat.zero_add, List.nil_append] at ho hf
  subst hf
  refine ⟨a1, k1, rfl, Own.rebase ho (fun k hk => ?_), (Mod.alloc _ w _).trans hm (fun _ _ e => e) (fun i hi e => ?_)⟩
  ·
   rcases hr k hk with h | h
   ·
    have e : w.heap.size = k := Option.some.inj h
    omega
   ·
    have e : (w.alloc (.cells #[] 50)).heap.size = w.heap.size + 1 := by simp
    omega
  ·
   have e' : w.heap.size = i := Option.some.inj e
   omega
theorem nt_out (h : NT w p n L F) (v : Int) : Calls Tryz.prog 39 #[.pointer (some ⟨p, 0, none⟩), .int .i64 v] w fun e w' => NewR 50 4 (outL L v).length ((outL L v).flatMap c4) w e w' := by
 by_cases hf : 0 ≤ v ∧ v < (n : Int)
 ·
  obtain ⟨v, rfl⟩ := Int.eq_ofNat_of_zero_le hf.1
  have hv : v < n := by omega
  have HH := Lib.hid (nt_has h (v : Int) true (decide_eq_true hf))
  obtain ⟨ob, ib, a, c, q0, q1, q2, ho, _⟩ := h.orow v hv
  have hlen := outL_len h.ok (v : Int)
  have h512 := h.n512
  obtain ⟨iS, hiS, hzS, hsS, hbS⟩ := info_parts Nt.infoSA
  have hix := fun wx => run_indexS (P := Tryz.prog) wx 88 34 iS 1 Tryz.underlying88 hiS hsS (some ⟨ob, 0, none⟩) n n v hv (by simp)
  rw [elemA_lit] at hix
  have HC := Lib.hid (cloneA_any w a _ c (outL L (v : Int)) rfl (Rd.ofOwn ho) (by omega))
  obtain ⟨ln, hln⟩ : ∃ x, (outL L (v : Int)).length = x := ⟨_, rfl⟩
  rw [hln] at HC q2 ⊢
  clear h ho hlen h512 hf q1 hln
  go_enter Tryz.func39, Tryz.ntmps39
  go_wp2_with fail
  refine HH.out.mono ?_
  rintro e w' ⟨rfl, rfl⟩
  go_wp2_with fail
  refine HC.out.mono ?_
  rintro e w2 ⟨a2, c2, rfl, ho2, hm2⟩
  have HO2 := Lib.hid ho2
  have HM2 := Lib.hid hm2
  clear ho2 hm2 q0 q2 HH HC
  go_wp2_with fail
  go_ret
  exact ⟨a2, c2, rfl, HO2.out, HM2.out⟩
 ·
  have HH := Lib.hid (nt_has h v false (decide_eq_false hf))
  have hres : outL L v = [] := List.filter_eq_nil_iff.2 fun b hb => by
   have := h.ok.may b hb; unfold mayA at this; simp; omega
  rw [hres]
  clear h hres hf
  go_enter Tryz.func39, Tryz.ntmps39
  go_wp2_with fail
  refine HH.out.mono ?_
  rintro e w' ⟨rfl, rfl⟩
  go_wp2_with fail
  go_ret
  exact ⟨none, 0, rfl, World.ownsRow_nil _ _ _ _, Mod.refl _ _⟩
end
end Go.Proofs.YtjjedebjbgpimaaGreat
namespace Go.Proofs.YtjjedebjbgpimaaGreat
open Go.RowKit Mile
set_option maxRecDepth 100000
section
variable {w w' : World} {p n : Nat} {L : List Ar} {F : Nat → Prop}
set_option maxHeartbeats 8000000 in
theorem nt_in (h : NT w p n L F) (v : Int) : Calls Tryz.prog 64 #[.pointer (some ⟨p, 0, none⟩), .int .i64 v] w fun e w' => NewR 50 4 (inL L v).length ((inL L v).flatMap c4) w e w' := by
 by_cases hf : 0 ≤ v ∧ v < (n : Int)
 ·
  obtain ⟨v, rfl⟩ := Int.eq_ofNat_of_zero_le hf.1
  have hv : v < n := by omega
  have HH := Lib.hid (nt_has h (v : Int) true (decide_eq_true hf))
  obtain ⟨ob, ib, a, c, q0, q1, q2, ho⟩ := h.irow v hv
  have hlen := inF_len h.ok (v : Int)
  have h512 := h.n512
  obtain ⟨iS, hiS, hzS, hsS, hbS⟩ := info_parts Nt.infoSI
  obtain ⟨iI, hiI, hzI, hsI, hbI⟩ := info_parts Nt.infoI
  obtain ⟨iA, hiA, hzA, hsA, hbA⟩ := info_parts Nt.infoA
  have hix := fun wx => run_indexS (P := Tryz.prog) wx 89 40 iS 1 Tryz.underlying89 hiS hsS (some ⟨ib, 0, none⟩) n n v hv (by simp)
  rw [elemA_lit] at hix
  have hle : (inF L (v : Int)).length = (inL L (v : Int)).length := by unfold inF; rw [List.length_map]
  obtain ⟨R, hR⟩ : ∃ R, inL L (v : Int) = R := ⟨_, rfl⟩
  have hsub : ∀ b ∈ R, findN L b.f (v : Int) = some b := fun b hb => by
   rw [← hR] at hb
   obtain ⟨e1, e2⟩ := mem_inL.1 hb
   rw [← e2]; exact findN_some h.ok.sort e1
  have hfr : inF L (v : Int) = R.map (·.f) := by rw [← hR]; rfl
  rw [hR] at hle ⊢
  rw [hle, hfr] at ho
  rw [hle] at q2 hlen
  obtain ⟨ln, hln⟩ : ∃ x, R.length = x := ⟨_, rfl⟩
  rw [hln] at q2 ho hlen ⊢
  have hmk := fun wx => run_makeSlice (P := Tryz.prog) (w := wx) 34 50 iA _ Tryz.underlying34 hiA hzA .i64 .i64 0 (ln : Int) (by omega) (by omega) (by rw [hsA]; omega) (by rw [hbA]; omega) (by omega)
  have hrd := Rd.ofOwn ho
  have HRD := Lib.hid hrd
  have HSUB := Lib.hid hsub
  have HLN := Lib.hid hln
  have HNT := Lib.hid h
  have hown : ∀ wx : World, (wx.alloc (.cells (madeCells #[Value.int .i64 0, .int .i64 0, .int .i64 0, .int .i64 0] (ln * 4)) 50)).ownsRow wx.heap.size 50 4 (.slice (some ⟨wx.heap.size, 0, none⟩) 0 ln) 0 [] := fun wx => by
   refine ⟨rfl, .inr ⟨wx.heap.size, ln, _, rfl, Nat.le_refl _, heap_alloc_new _ _, Nat.zero_le _, by unfold maxLen; omega, size_madeCells _ _, by simp⟩⟩
  have HOWN := Lib.hid hown
  simp only [Int.toNat_natCast, Int.toNat_zero, hsA] at hmk
  have lp := block_lt_of_cell q1
  have li := block_lt_of_cell q2
  simp only at lp li
  clear h ho hf q0 hR hsub hfr hle hrd hln hown
  go_enter Tryz.func64, Tryz.ntmps64
  go_wp2_with fail
  refine HH.out.mono ?_
  rintro e w' ⟨rfl, rfl⟩
  go_upto_region 4 with fail
  obtain ⟨w1, hw1⟩ : ∃ x, w.alloc (.cells (madeCells #[Value.int .i64 0, .int .i64 0, .int .i64 0, .int .i64 0] (ln * 4)) 50) = x := ⟨_, rfl⟩
  have hm1 : Mod (fun _ => False) w w1 := by rw [← hw1]; exact Mod.alloc _ _ _
  have ho1 := HOWN.out w
  rw [hw1] at ho1
  replace q1 := hm1.cell q1 (fun e => e)
  replace q2 := hm1.cell q2 (fun e => e)
  (try rw [hw1])
  have HO1 := Lib.hid ho1
  have HM1 := Lib.hid hm1
  clear hw1 ho1 hm1 HOWN HH hmk lp li
  go_wp2_with fail
  go_loopw [5, 31] (fun gv jv wr => ∃ (j : Nat) (ag : Option Addr) (cg : Nat), gv = .slice ag j cg ∧ jv = .int .i64 (j : Int) ∧ j ≤ ln ∧ wr.ownsRow w.heap.size 50 4 (.slice ag j cg) j ((R.take j).flatMap c4) ∧ Mod (fun _ => False) w wr) (fun _ jv _ => ln - (intOf jv).toNat)
  case atStart => exact ⟨0, _, _, rfl, rfl, Nat.zero_le _, by simpa using HO1.out, HM1.out⟩
  case round =>
   obtain ⟨j, ag, cg, rfl, rfl, hj, hown, hmo⟩ := hrel
   obtain ⟨wo, hwo⟩ : ∃ x : World, x = wr := ⟨_, rfl⟩
   subst hwo
   have HOW := Lib.hid hown
   have HMO := Lib.hid hmo
   clear hown hmo q1 q2
   by_cases hjl : j < ln
   case neg =>
    obtain rfl : j = ln := by omega
    have z0 : decide ((j : Int) < (j : Int)) = false := by simp
    go_wp2_with fail
    go_ret
    exact ⟨ag, cg, rfl, by have h9 := HOW.out; rwa [List.take_of_length_le (Nat.le_of_eq HLN.out)] at h9, HMO.out⟩
   case pos =>
    have z0 : decide ((j : Int) < (ln : Int)) = true := by simp; omega
    have hjR : j < R.length := by rw [HLN.out]; exact hjl
    have hrd := HRD.out.keep HMO.out (fun _ _ e => e)
    obtain ⟨eb, eo, hpe, e0⟩ := rd1 hrd j (by rw [List.length_map]; exact hjR)
    rw [List.getElem_map] at e0
    obtain ⟨b, hb⟩ : ∃ b, R[j] = b := ⟨_, rfl⟩
    rw [hb] at e0
    have hiy := fun wx => run_indexS (P := Tryz.prog) wx 40 3 iI 1 Tryz.underlying40 hiI hsI a ln c j hjl (hrd.some_ (by omega))
    rw [hpe] at hiy
    have hfn := HSUB.out b (by rw [← hb]; exact List.getElem_mem hjR)
    have harc := nt_arc (HNT.out.later HMO.out) b.f (v : Int)
    rw [hfn] at harc
    unfold arcV arV at harc
    have HARC := Lib.hid harc
    have HB := Lib.hid hb
    have hj1 : IntKind.i64.wrap ((j : Int) + 1) = ((j + 1 : Nat) : Int) := by rw [IntWalk.i64_in _ (by omega)]; omega
    clear hb hfn harc hpe hrd
    go_wp2_with fail
    refine HARC.out.mono ?_
    rintro e w2 ⟨rfl, hm2⟩
    have HM2 := Lib.hid hm2
    have hob := fun o1 o2 => Own.keep (Own.keep (Own.keep HOW.out hm2 (fun _ _ e => e)) (Mod.alloc (fun _ => False) w2 o1) (fun _ _ e => e)) (Mod.alloc (fun _ => False) (w2.alloc o1) o2) (fun _ _ e => e)
    have hobz := fun o1 o2 => Own.base (hob o1 o2) (Nat.zero_le _)
    have hmx1 : j + 1 ≤ maxLen := by unfold maxLen; omega
    clear hm2 HARC e0 hiy
    go_wp2_with (at_builtin; refine wpList_append_any rfl (.tmp 42) (.tmp 44) 34 rfl 50 iA (.agg #[.int .i64 0, .int .i64 0, .int .i64 0, .int .i64 0]) 4 32 Tryz.underlying34 hiA hzA hsA hbA rfl (by decide) _ j ((R.take j).flatMap c4) rfl (hobz _ _) _ 1 [.int .i64 b.f, .int .i64 b.t, .int .i64 b.w, .int .i64 b.m] rfl (by exact Rd.litN 50 4 [.int .i64 b.f, .int .i64 b.t, .int .i64 b.w, .int .i64 b.m] (0, 0) _ 1 (by first | rfl | simp) rfl (by decide)) (by intro u hu; simp at hu; rcases hu with rfl | rfl | rfl | rfl <;> rfl) hmx1 (by omega) ?_; intro v7 w7 hap; obtain ⟨a7, c7, rfl⟩ := hap.form; have HAP := Lib.hid hap; clear hap hob hobz)
    have hlow : ∀ k, (Value.slice ag j cg).ownBlock = some k → w.heap.size ≤ k := fun k hk => (HOW.out.lt k hk).1
    have hs2 : w.heap.size ≤ w2.heap.size := Nat.le_trans HMO.out.size HM2.out.size
    have ho7 := HAP.out.own
    have lo7 := HAP.out.low (B := w.heap.size) (by simp; omega) hlow
    have hm7 := HAP.out.modOld (W0 := w) ((HMO.out.of2 HM2.out).of2 ((Mod.alloc (fun _ => False) w2 _).of2 (Mod.alloc (fun _ => False) _ _))) hlow
    have hx : (R.take j).flatMap c4 ++ [.int .i64 b.f, .int .i64 b.t, .int .i64 b.w, .int .i64 b.m] = (R.take (j + 1)).flatMap c4 := by
     rw [List.take_succ_eq_append_getElem hjR, List.flatMap_append, HB.out]; simp [c4]
    rw [hx] at ho7
    have HO7 := Lib.hid (Own.rebase ho7 lo7)
    have HM7 := Lib.hid hm7
    clear ho7 lo7 hm7 hx hlow hs2
    go_wp2_with fail
    go_roundw
    case rel => exact ⟨j + 1, a7, c7, rfl, by go_num, by omega, HO7.out, HM7.out⟩
    case measure => simp [intOf]; omega
 ·
  have HH := Lib.hid (nt_has h v false (decide_eq_false hf))
  have hres : inL L v = [] := List.filter_eq_nil_iff.2 fun b hb => by
   have := h.ok.may b hb; unfold mayA at this; simp; omega
  rw [hres]
  clear h hres hf
  go_enter Tryz.func64, Tryz.ntmps64
  go_wp2_with fail
  refine HH.out.mono ?_
  rintro e w' ⟨rfl, rfl⟩
  go_wp2_with fail
  go_ret
  exact ⟨none, 0, rfl, World.ownsRow_nil _ _ _ _, Mod.refl _ _⟩
end
end Go.Proofs.YtjjedebjbgpimaaGreat
namespace Go.Proofs.YtjjedebjbgpimaaGreat
open Go.RowKit Mile
set_option maxRecDepth 100000
set_option maxHeartbeats 4000000 in
theorem nt_grow (w : World) (k : Nat) (hk : k ≤ 1000000) : Calls Tryz.prog 96 #[.slice none 0 0, .int .i64 (k : Int)] w fun e w' => ∃ a c, e = .returned (.slice a 0 c) ∧ w'.ownsRow w.heap.size 50 4 (.slice a 0 c) 0 [] ∧ Mod (fun _ => False) w w' := by
 have z0 : decide ((k : Int) < 0) = false := by simp
 by_cases h0 : 0 < k
 ·
  have z1 : decide (0 < (k : Int)) = true := by simp; omega
  obtain ⟨iA, hiA, hzA, hsA, hbA⟩ := info_parts Nt.infoA
  have hk0 : IntKind.i64.wrap (k : Int) = (k : Int) := IntWalk.i64_in _ (by omega)
  have hold : (Builtin.firstCells iA.size 0 (.slice none 0 0)).run Tryz.prog w.drew = .ok (([] : List Value)).toArray w.drew := by simp [Builtin.firstCells]
  have hrz : ∀ ty, (Builtin.append_ #[34, 3] ty #[.slice none 0 0, .int .i64 (k : Int)]).run Tryz.prog w = _ := fun ty => Lib.run_append_grow_zeros w 34 3 ty 50 iA (.agg #[.int .i64 0, .int .i64 0, .int .i64 0, .int .i64 0]) .i64 .i64 Tryz.underlying34 Tryz.underlying3 hiA hzA none 0 0 [] hold k h0 (by omega) (by omega) (by omega) (by rw [hbA]; omega) (by rw [hbA]; exact growslice_fits (by omega) (by omega))
  rw [Nat.zero_add] at hrz
  obtain ⟨G, hG⟩ : ∃ G, grownCap w k 0 50 = G := ⟨_, rfl⟩
  have hGn : k ≤ G := by rw [← hG]; exact grownCap_ge w _ _ _
  have hGm : G ≤ maxLen := by rw [← hG]; exact grownCap_le_maxLen w k 0 50 (by unfold maxLen; omega)
  rw [hG] at hrz
  obtain ⟨ROW, hROW⟩ : ∃ ROW : Array Value, (([] : List Value)).toArray ++ Builtin.zeroCells (Value.cells (.agg #[.int .i64 0, .int .i64 0, .int .i64 0, .int .i64 0])) k ++ Builtin.zeroCells (Value.cells (.agg #[.int .i64 0, .int .i64 0, .int .i64 0, .int .i64 0])) (G - k) = ROW := ⟨_, rfl⟩
  rw [hROW] at hrz
  have hRl : ROW.size = G * 4 := by rw [← hROW]; simp [Builtin.zeroCells, Value.cells]; omega
  obtain ⟨W1, hW1⟩ : ∃ W1, w.drew.alloc (.cells ROW 50) = W1 := ⟨_, rfl⟩
  rw [hW1] at hrz
  have hm1 : Mod (fun _ => False) w W1 := by rw [← hW1]; exact (Mod.drew (fun _ => False) w).trans (Mod.alloc _ _ _) (fun _ _ e => e) (fun _ _ e => e)
  have ho1 : W1.ownsRow w.heap.size 50 4 (.slice (some ⟨w.heap.size, 0, none⟩) 0 G) 0 [] := by
   refine ⟨rfl, .inr ⟨w.heap.size, G, ROW, rfl, Nat.le_refl _, ?_, Nat.zero_le _, hGm, hRl, by simp⟩⟩
   rw [← hW1]
   have h9 := Blk.new w.drew 50 ROW.toList
   unfold Blk at h9
   simpa using h9
  have htk := fun wx => run_takeS (P := Tryz.prog) wx 34 50 iA Tryz.underlying34 hiA (some ⟨w.heap.size, 0, none⟩) k G 0 (Nat.zero_le _)
  have htn := fun wx => run_takeS (P := Tryz.prog) wx 34 50 iA Tryz.underlying34 hiA none 0 0 0 (Nat.le_refl _)
  have HO1 := Lib.hid ho1
  have HM1 := Lib.hid hm1
  have HRZ := Lib.hid hrz
  clear hold hrz hROW hRl hW1 hm1 ho1 hG hGn hGm
  go_enter Tryz.func96, Tryz.ntmps96
  go_wp2_with (at_builtin; refine Lib.wpList_append_run _ rfl _ _ _ _ rfl _ _ rfl rfl _ _ (HRZ.out _) ?_)
  go_ret
  exact ⟨_, _, rfl, HO1.out, HM1.out⟩
 ·
  obtain rfl : k = 0 := by omega
  go_enter Tryz.func96, Tryz.ntmps96
  go_wp2_with fail
  go_ret
  exact ⟨none, 0, rfl, World.ownsRow_nil _ _ _ _, Mod.refl _ _⟩
def allR (ro : Nat → List Ar) (j : Nat) : List Ar := (List.range j).flatMap ro
theorem allR_succ (ro : Nat → List Ar) (j : Nat) : allR ro (j + 1) = allR ro j ++ ro j := by
 unfold allR; rw [List.range_succ, List.flatMap_append]; simp
theorem allR_le (ro : Nat → List Ar) (m : Nat) (h : ∀ v, (ro v).length ≤ m) : ∀ j, (allR ro j).length ≤ j * m
 | 0 => by simp [allR]
 | j + 1 => by rw [allR_succ, List.length_append, Nat.add_mul, Nat.one_mul]; have := allR_le ro m h j; have := h j; omega
section
variable {w w' : World} {p n : Nat} {L : List Ar} {F : Nat → Prop}
set_option maxHeartbeats 8000000 in
theorem nt_concat (h : NT w p n L F) (ob ib : Nat) (q0 : w.cell? ⟨p, 0, none⟩ = some (.slice (some ⟨ob, 0, none⟩) n n)) : Calls Tryz.prog 59 #[.slice (some ⟨ob, 0, none⟩) n n] w fun e w' => NewR 50 4 L.length (L.flatMap c4) w e w' := by
 obtain ⟨iA, hiA, hzA, hsA, hbA⟩ := info_parts Nt.infoA
 obtain ⟨iS, hiS, hzS, hsS, hbS⟩ := info_parts Nt.infoSA
 have hall : allR (fun v => outL L (v : Int)) n = L := outL_all h.ok.sort n (fun b hb => by have := h.ok.may b hb; unfold mayA at this; omega)
 have hlen := fun v : Nat => outL_len h.ok (v : Int)
 have h512 := h.n512
 have hrow : ∀ wx, Mod (fun _ => False) w wx → ∀ v, v < n → ∃ a c, wx.cell? ⟨ob, v, none⟩ = some (.slice a (outL L (v : Int)).length c) ∧ Rd wx 4 (.slice a (outL L (v : Int)).length c) (outL L (v : Int)).length ((outL L (v : Int)).flatMap c4) := fun wx m v hv => by
  obtain ⟨ob2, ib2, a, c, e0, _, e2, e3, _⟩ := (h.later m).orow v hv
  have e0' := m.cell q0 (fun e => e)
  rw [e0] at e0'
  cases e0'
  exact ⟨a, c, e2, Rd.ofOwn e3⟩
 obtain ⟨ro, hro⟩ : ∃ ro, (fun v : Nat => outL L (v : Int)) = ro := ⟨_, rfl⟩
 have hrow2 : ∀ wx, Mod (fun _ => False) w wx → ∀ v, v < n → ∃ a c, wx.cell? ⟨ob, v, none⟩ = some (.slice a (ro v).length c) ∧ Rd wx 4 (.slice a (ro v).length c) (ro v).length ((ro v).flatMap c4) := by rw [← hro]; exact hrow
 have hlen2 : ∀ v, (ro v).length ≤ n := by rw [← hro]; exact hlen
 rw [hro] at hall
 have hle := allR_le ro n hlen2
 have hbig : n * n ≤ 262144 := Nat.mul_le_mul h512 h512
 have hlej : ∀ j, j ≤ n → (allR ro j).length ≤ 262144 := fun j hj => by have := hle j; have := Nat.mul_le_mul_right n hj; omega
 have HALL := Lib.hid hall
 have HROW := Lib.hid hrow2
 have HLE := Lib.hid hlej
 have HL2 := Lib.hid hlen2
 clear h q0 hall hlen hrow hro hrow2 hle hbig hlej hlen2
 go_enter Tryz.func59, Tryz.ntmps59
 go_wp2_with fail
 go_loopw [3, 11] (fun sv jv wr => ∃ j : Nat, j ≤ n ∧ sv = .int .i64 ((allR ro j).length : Int) ∧ jv = .int .i64 (j : Int) ∧ w = wr) (fun _ jv _ => n - (intOf jv).toNat)
 case atStart => exact ⟨0, Nat.zero_le _, rfl, rfl, rfl⟩
 case round =>
  obtain ⟨j, hj, rfl, rfl, rfl⟩ := hrel
  by_cases hjl : j < n
  ·
   have z0 : decide ((j : Int) < (n : Int)) = true := by simp; omega
   obtain ⟨a, c, e0, hr⟩ := HROW.out w (Mod.refl _ _) j hjl
   have hix := fun wx => run_indexS (P := Tryz.prog) wx 88 34 iS 1 Tryz.underlying88 hiS hsS (some ⟨ob, 0, none⟩) n n j hjl (by simp)
   rw [elemA_lit] at hix
   have hsum : (allR ro j).length + (ro j).length = (allR ro (j + 1)).length := by rw [allR_succ, List.length_append]
   have hb := HLE.out (j + 1) (by omega)
   obtain ⟨s, hs⟩ : ∃ s, (allR ro j).length = s := ⟨_, rfl⟩
   obtain ⟨s2, hs2⟩ : ∃ s, (allR ro (j + 1)).length = s := ⟨_, rfl⟩
   obtain ⟨ln, hln⟩ : ∃ s, (ro j).length = s := ⟨_, rfl⟩
   rw [hs] at hsum ⊢
   rw [hs2] at hsum hb
   rw [hln] at hsum e0
   have hw1 : IntKind.i64.wrap ((s : Int) + (ln : Int)) = (s2 : Int) := by rw [IntWalk.i64_in _ (by omega)]; omega
   have hj1 : IntKind.i64.wrap ((j : Int) + 1) = ((j + 1 : Nat) : Int) := by rw [IntWalk.i64_in _ (by omega)]; omega
   have z1 : decide ((s2 : Int) < 0) = false := by simp
   have HS2 := Lib.hid hs2
   clear hr hsum hs hs2 hln
   go_wp2_with fail
   go_roundw
   case rel => exact ⟨j + 1, by omega, by rw [HS2.out], by go_num, by first | rfl | trivial⟩
   case measure => simp [intOf]; omega
  ·
   obtain rfl : j = n := by omega
   have z0 : decide ((j : Int) < (j : Int)) = false := by simp
   have hb := HLE.out j (Nat.le_refl _)
   rw [HALL.out] at hb ⊢
   obtain ⟨s, hs⟩ : ∃ s, L.length = s := ⟨_, rfl⟩
   rw [hs] at hb ⊢
   have HS := Lib.hid hs
   clear hs
   go_wp2_with fail
   refine (nt_grow w s (by omega)).mono ?_
   rintro e w1 ⟨a1, c1, rfl, ho1, hm1⟩
   have HO1 := Lib.hid ho1
   have HM1 := Lib.hid hm1
   clear ho1 hm1
   go_wp2_with fail
   go_loopw [6, 27] (fun gv jv wr => ∃ (k ln : Nat) (ag : Option Addr) (cg : Nat), gv = .slice ag ln cg ∧ jv = .int .i64 (k : Int) ∧ k ≤ j ∧ (allR ro k).length = ln ∧ wr.ownsRow w.heap.size 50 4 (.slice ag ln cg) ln ((allR ro k).flatMap c4) ∧ Mod (fun _ => False) w wr) (fun _ jv _ => j - (intOf jv).toNat)
   case atStart => exact ⟨0, 0, _, _, rfl, rfl, Nat.zero_le _, rfl, by simpa [allR] using HO1.out, HM1.out⟩
   case round =>
    obtain ⟨k, ln, ag, cg, rfl, rfl, hk, hln, hown, hmo⟩ := hrel
    obtain ⟨wo, hwo⟩ : ∃ x : World, x = wr := ⟨_, rfl⟩
    subst hwo
    have HOW := Lib.hid hown
    have HMO := Lib.hid hmo
    clear hown hmo
    by_cases hkl : k < j
    ·
     have z1 : decide ((k : Int) < (j : Int)) = true := by simp; omega
     obtain ⟨a, c, e0, hr⟩ := HROW.out wo HMO.out k hkl
     have hix := fun wx => run_indexS (P := Tryz.prog) wx 88 34 iS 1 Tryz.underlying88 hiS hsS (some ⟨ob, 0, none⟩) j j k hkl (by simp)
     rw [elemA_lit] at hix
     have hsum : (allR ro k).length + (ro k).length = (allR ro (k + 1)).length := by rw [allR_succ, List.length_append]
     have hb2 := HLE.out (k + 1) (by omega)
     have hone := c4_one (ro k)
     have hx : (allR ro k).flatMap c4 ++ (ro k).flatMap c4 = (allR ro (k + 1)).flatMap c4 := by rw [allR_succ, List.flatMap_append]
     obtain ⟨m, hm⟩ : ∃ s, (ro k).length = s := ⟨_, rfl⟩
     rw [hln] at hsum
     rw [hm] at hsum e0 hr
     have hmx1 : ln + m ≤ maxLen := by unfold maxLen; omega
     have hmx2 : (ln + m) * 32 ≤ 140737488355328 := by omega
     have hk1 : IntKind.i64.wrap ((k : Int) + 1) = ((k + 1 : Nat) : Int) := by rw [IntWalk.i64_in _ (by omega)]; omega
     have HR := Lib.hid hr
     have HX := Lib.hid hx
     have HSUM := Lib.hid hsum
     have hobz := Own.base HOW.out (Nat.zero_le _)
     clear hr hx hsum hm hln
     go_wp2_with (at_builtin; refine wpList_append_any rfl (.tmp 31) (.tmp 32) 34 rfl 50 iA (.agg #[.int .i64 0, .int .i64 0, .int .i64 0, .int .i64 0]) 4 32 Tryz.underlying34 hiA hzA hsA hbA rfl (by decide) _ ln ((allR ro k).flatMap c4) rfl hobz _ m ((ro k).flatMap c4) rfl HR.out hone hmx1 hmx2 ?_; intro v7 w7 hap; obtain ⟨a7, c7, rfl⟩ := hap.form; have HAP := Lib.hid hap; clear hap)
     have hlow : ∀ k, (Value.slice ag ln cg).ownBlock = some k → w.heap.size ≤ k := fun k hk => (HOW.out.lt k hk).1
     have ho7 := HAP.out.own
     have lo7 := HAP.out.low (B := w.heap.size) HMO.out.size hlow
     have hm7 := HAP.out.modOld (W0 := w) HMO.out hlow
     rw [HX.out] at ho7
     have HO7 := Lib.hid (Own.rebase ho7 lo7)
     have HM7 := Lib.hid hm7
     clear ho7 lo7 hm7 hlow
     (try go_wp2_with fail)
     go_roundw
     case rel => exact ⟨k + 1, ln + m, a7, c7, rfl, by go_num, by omega, HSUM.out.symm, HO7.out, HM7.out⟩
     case measure => simp [intOf]; omega
    ·
     obtain rfl : k = j := by omega
     have z1 : decide ((k : Int) < (k : Int)) = false := by simp
     go_wp2_with fail
     go_ret
     have h9 := HOW.out
     rw [HALL.out] at hln h9
     obtain rfl : s = ln := by rw [← hln]; exact HS.out.symm
     have hls := HS.out
     unfold NewR
     rw [hls]
     exact ⟨ag, cg, rfl, h9, HMO.out⟩
theorem nt_all (h : NT w p n L F) : Calls Tryz.prog 18 #[.pointer (some ⟨p, 0, none⟩)] w fun e w' => NewR 50 4 L.length (L.flatMap c4) w e w' := by
 obtain ⟨ob, ib, q0, q1⟩ := h.cells
 have HC := Lib.hid (nt_concat h ob ib q0)
 obtain ⟨ln, hln⟩ : ∃ x, L.length = x := ⟨_, rfl⟩
 rw [hln] at HC ⊢
 clear h hln q1
 go_enter Tryz.func18, Tryz.ntmps18
 go_wp2_with fail
 refine HC.out.mono ?_
 rintro e w2 ⟨a2, c2, rfl, ho2, hm2⟩
 have HO2 := Lib.hid ho2
 have HM2 := Lib.hid hm2
 clear ho2 hm2 q0 HC
 go_wp2_with fail
 go_ret
 exact ⟨a2, c2, rfl, HO2.out, HM2.out⟩
end
end Go.Proofs.YtjjedebjbgpimaaGreat
