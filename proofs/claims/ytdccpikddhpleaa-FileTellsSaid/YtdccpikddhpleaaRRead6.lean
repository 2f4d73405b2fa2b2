/- The reference's ReadFile by contract. -/
import Derived.Test.YtdccpikddhpleaaKRef6
import Derived.Test.YtdccpikddhpleaaTown3
import Derived.Test.YtdccpikddhpleaaDec6b
import Derived.Deep.DeepCutAuto
import Derived.Deep.CutBlock
namespace Go.Proofs.Ytdccpikddhpleaa
open Go.RowKit Mile
set_option maxRecDepth 100000
/-- ReadFile's memory: the Reader at p, what it tells at q, the graph at g, its rows. -/
structure RR (w W : World) (p q g B0 : Nat) (s : RS) (sN sE sB : Value) (N : List P2) (E : List P3) (B : List P2) : Prop where
  mr : MR W p s w.heap.size
  gb : Blk W g 26 [sN, sE, sB]
  qb : Blk W q 26 [.slice none 0 0, .slice none 0 0, .slice none 0 0]
  tr : TR B0 sN sE sB N E B W
  md : Mod (fun _ => False) w W
  sz : B0 ≤ W.heap.size
  d1 : w.heap.size ≤ p ∧ w.heap.size ≤ q ∧ w.heap.size ≤ g
  d2 : p < B0 ∧ q < B0 ∧ g < B0
  d3 : p ≠ q ∧ p ≠ g ∧ q ≠ g
section
variable {w W W' : World} {p q g B0 : Nat} {s s' : RS} {sN sE sB v' : Value} {N : List P2} {E : List P3} {B : List P2}
theorem RR.keep (h : RR w W p q g B0 s sN sE sB N E B) (hm : Mod (fun _ => False) W W') : RR w W' p q g B0 s sN sE sB N E B :=
  ⟨h.mr.keep hm (fun e => e) (fun _ e => e.elim), h.gb.keep hm (fun e => e), h.qb.keep hm (fun e => e), h.tr.keep hm, h.md.of2 hm, Nat.le_trans h.sz hm.size, h.d1, h.d2, h.d3⟩
theorem RR.num (h : RR w W p q g B0 s sN sE sB N E B) (hr : MR W' p s' w.heap.size) (hm : Mod (fun k => k = p) W W') : RR w W' p q g B0 s' sN sE sB N E B :=
  ⟨hr, h.gb.keep hm (fun e => h.d3.2.1 e.symm), h.qb.keep hm (fun e => h.d3.1 e.symm), h.tr.keepF hm (fun k e => by rw [e]; exact h.d2.1), h.md.trans hm (fun _ _ e => e) (fun i hi e => by have := h.d1.1; have h2 : i = p := e; omega), Nat.le_trans h.sz hm.size, h.d1, h.d2, h.d3⟩
theorem RR.pushN {x : P2} (h : RR w W p q g B0 s sN sE sB N E B) (hap : Appended W W' 50 2 sN v' (N.length + 1) ((N ++ [x]).flatMap c2)) : RR w (W'.setCell ⟨g, 0, none⟩ v') p q g B0 s v' sE sB (N ++ [x]) E B := by
  have hm := hap.mod
  have ht := h.tr.pushN h.sz hap
  have hlo := h.tr.low1
  have hc1 := h.d1
  have hc2 := h.d2
  have hc3 := h.d3
  have hst : Mod (fun k => k = g) W' (W'.setCell ⟨g, 0, none⟩ v') := Mod.setCell (F := fun k => k = g) W' ⟨g, 0, none⟩ v' rfl
  have hlt := h.md.size
  refine ⟨(h.mr.keep hm (fun e => by have := hlo p e; omega) (fun k e => by have := hlo k e; omega)).keep hst (fun e => hc3.2.1 e) (fun k e => by rw [e]; exact hc1.2.2), (h.gb.keep hm (fun e => by have := hlo g e; omega)).set 0 v', (h.qb.keep hm (fun e => by have := hlo q e; omega)).keep hst (fun e => hc3.2.2 e), ht.keepF hst (fun k e => by rw [e]; exact hc2.2.2), (h.md.trans hm (fun _ _ e => e) (fun i hi e => by have := hlo i e; omega)).trans hst (fun _ _ e => e) (fun i hi e => by have h2 : i = g := e; omega), Nat.le_trans (Nat.le_trans h.sz hm.size) hst.size, hc1, hc2, hc3⟩
theorem RR.pushE {x : P3} (h : RR w W p q g B0 s sN sE sB N E B) (hap : Appended W W' 52 3 sE v' (E.length + 1) ((E ++ [x]).flatMap c3)) : RR w (W'.setCell ⟨g, 1, none⟩ v') p q g B0 s sN v' sB N (E ++ [x]) B := by
  have hm := hap.mod
  have ht := h.tr.pushE h.sz hap
  have hlo := h.tr.low2
  have hc1 := h.d1
  have hc2 := h.d2
  have hc3 := h.d3
  have hst : Mod (fun k => k = g) W' (W'.setCell ⟨g, 1, none⟩ v') := Mod.setCell (F := fun k => k = g) W' ⟨g, 1, none⟩ v' rfl
  have hlt := h.md.size
  refine ⟨(h.mr.keep hm (fun e => by have := hlo p e; omega) (fun k e => by have := hlo k e; omega)).keep hst (fun e => hc3.2.1 e) (fun k e => by rw [e]; exact hc1.2.2), (h.gb.keep hm (fun e => by have := hlo g e; omega)).set 1 v', (h.qb.keep hm (fun e => by have := hlo q e; omega)).keep hst (fun e => hc3.2.2 e), ht.keepF hst (fun k e => by rw [e]; exact hc2.2.2), (h.md.trans hm (fun _ _ e => e) (fun i hi e => by have := hlo i e; omega)).trans hst (fun _ _ e => e) (fun i hi e => by have h2 : i = g := e; omega), Nat.le_trans (Nat.le_trans h.sz hm.size) hst.size, hc1, hc2, hc3⟩
theorem RR.pushB {x : P2} (h : RR w W p q g B0 s sN sE sB N E B) (hap : Appended W W' 63 2 sB v' (B.length + 1) ((B ++ [x]).flatMap c2)) : RR w (W'.setCell ⟨g, 2, none⟩ v') p q g B0 s sN sE v' N E (B ++ [x]) := by
  have hm := hap.mod
  have ht := h.tr.pushB h.sz hap
  have hlo := h.tr.low3
  have hc1 := h.d1
  have hc2 := h.d2
  have hc3 := h.d3
  have hst : Mod (fun k => k = g) W' (W'.setCell ⟨g, 2, none⟩ v') := Mod.setCell (F := fun k => k = g) W' ⟨g, 2, none⟩ v' rfl
  have hlt := h.md.size
  refine ⟨(h.mr.keep hm (fun e => by have := hlo p e; omega) (fun k e => by have := hlo k e; omega)).keep hst (fun e => hc3.2.1 e) (fun k e => by rw [e]; exact hc1.2.2), (h.gb.keep hm (fun e => by have := hlo g e; omega)).set 2 v', (h.qb.keep hm (fun e => by have := hlo q e; omega)).keep hst (fun e => hc3.2.2 e), ht.keepF hst (fun k e => by rw [e]; exact hc2.2.2), (h.md.trans hm (fun _ _ e => e) (fun i hi e => by have := hlo i e; omega)).trans hst (fun _ _ e => e) (fun i hi e => by have h2 : i = g := e; omega), Nat.le_trans (Nat.le_trans h.sz hm.size) hst.size, hc1, hc2, hc3⟩
end
/-- What ReadFile tells. -/
def RReadP (b : List Int) (w : World) (e : Ending) (w' : World) : Prop :=
  (OkG b ∧ ∃ a1 n1 d1 a2 n2 d2 a3 n3 d3, e = .returned (.tuple #[.agg #[.slice a1 n1 d1, .slice a2 n2 d2, .slice a3 n3 d3], .bool true]) ∧ GV w' a1 n1 d1 a2 n2 d2 a3 n3 d3 (parseG b) ∧ Mod (fun _ => False) w w') ∨
  (¬ OkG b ∧ e = .returned (.tuple #[.agg #[.slice none 0 0, .slice none 0 0, .slice none 0 0], .bool false]) ∧ Mod (fun _ => False) w w')

set_option maxHeartbeats 32000000 in
theorem rread_any (w : World) (a : Option Addr) (n c : Nat) (b : List Int) (hn : b.length = n) (hr : Rd w 1 (.slice a n c) n (b.map (Value.int .u8))) (hb : ∀ x ∈ b, 0 ≤ x ∧ x < 256) (hm : n ≤ 1000000) :
    Calls Try.prog 12 #[.slice a n c] w (RReadP b w) := by
  obtain ⟨iN, hiN, hzN, hsN, hbN⟩ := info_parts GR.infoN
  obtain ⟨iE, hiE, hzE, hsE, hbE⟩ := info_parts GR.infoE
  obtain ⟨iB, hiB, hzB, hsB, hbB⟩ := info_parts GR.infoB
  have HB := Lib.hid hb
  have HN := Lib.hid hn
  have HR := Lib.hid hr
  clear hb hn hr
  go_enter Try.func12, Try.ntmps12
  go_upto_region 2 with fail
  obtain ⟨q, hq⟩ : ∃ q, w.heap.size = q := ⟨_, rfl⟩
  obtain ⟨w0, hw0⟩ : ∃ W, w.alloc (.cells #[.slice none 0 0, .slice none 0 0, .slice none 0 0] 26) = W := ⟨_, rfl⟩
  have hq0 : Blk w0 q 26 [.slice none 0 0, .slice none 0 0, .slice none 0 0] := by rw [← hw0, ← hq]; exact Blk.new _ _ _
  have hm0 : Mod (fun _ => False) w w0 := by rw [← hw0]; exact Mod.alloc _ _ _
  have hs0 : w0.heap.size = q + 1 := by rw [← hw0, ← hq]; exact heap_size_alloc _ _
  obtain ⟨w1, hw1⟩ : ∃ W, w0.alloc (.cells #[.slice a n c, .bool false] 74) = W := ⟨_, rfl⟩
  have hp1 : Blk w1 (q + 1) 74 [.slice a n c, .bool false] := by rw [← hw1, ← hs0]; exact Blk.new _ _ _
  have hm1 : Mod (fun _ => False) w0 w1 := by rw [← hw1]; exact Mod.alloc _ _ _
  try rw [hw0]
  try rw [hq]
  try rw [hw1]
  clear hw0 hw1
  obtain ⟨p, hp⟩ : ∃ p, q + 1 = p := ⟨_, rfl⟩
  rw [hp] at hp1
  try rw [hp]
  have hq1 := hq0.keep hm1 (fun e => e)
  have hm01 := hm0.of2 hm1
  have hmr : MR w1 p (some b) w.heap.size := ⟨_, b, hp1, by rw [HN.out]; exact HR.out.keep hm01 (fun _ _ e => e), .inr rfl, by omega, fun k hk hle => by have := HR.out.lt hk hle; simpa using this⟩
  have HM01 := Lib.hid hm01
  have HQ1 := Lib.hid hq1
  have HP := Lib.hid (And.intro hp hq)
  have hpb : q < p := by omega
  clear hq0 hp1 hm0 hm1 hm01 hq1 hs0 hp hq
  go_wp2_with fail
  refine (mraw_any p w1 (some b) _ hmr 4 (by simp; have := HN.out; omega)).mono ?_
  rintro e w2 ⟨v2, rfl, hfr, hmr2, hm2⟩
  have hq2 := HQ1.out.keep hm2 (fun e => by have h1 : q = p := e; omega)
  have hm02 := HM01.out.trans hm2 (H := fun _ => False) (fun _ _ e => e) (fun i hi e => by have h1 : i = p := e; have h2 := HP.out; omega)
  have hmr2 : MR w2 p (pS1 b) w.heap.size := hmr2
  have hg1 : RgS (pS1 b) := rg_take 4 (s := some b) HB.out
  obtain ⟨M4, hM4⟩ : ∃ l, (takeS 4 (some b)).1 = l := ⟨_, rfl⟩
  rw [hM4] at hfr
  have hmrg : ∀ x ∈ M4, 0 ≤ x ∧ x < 256 := by
    intro x hx; rw [← hM4] at hx; unfold takeS at hx
    split at hx
    · exact HB.out x (List.mem_of_mem_take hx)
    · simp at hx
  have k1 := run_strS w2 27 9 5 Try.underlying27 Try.underlying5 Try.underlying9 (Rd.ofOwn hfr)
  have HM4 := Lib.hid hM4
  clear hM4 hfr hm2 hmr
  by_cases hmi : M4 = [77, 73, 76, 69]
  case neg =>
    have HNO : Hid (¬ OkG b) := Lib.hid (fun h => hmi (by rw [← HM4.out]; exact (ok_ref h).2.1))
    obtain ⟨X, hX⟩ : ∃ x, strOf M4 = x := ⟨_, rfl⟩
    rw [hX] at k1
    have hxy : (X == (⟨#[77, 73, 76, 69]⟩ : ByteArray)) = false := by rw [← hX, show (⟨#[77, 73, 76, 69]⟩ : ByteArray) = strOf [77, 73, 76, 69] from rfl]; exact bytes_beq_ne3 (fun e => hmi (strOf_inj3 hmrg (by decide) e))
    have hxn : (X != (⟨#[77, 73, 76, 69]⟩ : ByteArray)) = true := by show (!(X == _)) = true; rw [hxy]; rfl
    have hxl : (X.toList == [77, 73, 76, 69]) = false := by rw [show ([77, 73, 76, 69] : List UInt8) = (⟨#[77, 73, 76, 69]⟩ : ByteArray).toList from by decide +kernel, ← beq_toListBytes]; exact hxy
    have hxx : ¬ X = (⟨#[77, 73, 76, 69]⟩ : ByteArray) := fun e => by rw [e] at hxy; revert hxy; decide +kernel
    clear hX hmi hmrg
    have hqq := hq2
    have c0 := hqq.cell 0 rfl
    have c1 := hqq.cell 1 rfl
    have c2 := hqq.cell 2 rfl
    have f0 := hqq.free 0
    have f1 := hqq.free 1
    have f2 := hqq.free 2
    have lq := hqq.lt
    have HQQ := Lib.hid hqq
    clear hqq
    go_wp2_with fail
    have b2 := (((HQQ.out.set 0 (.slice none 0 0)).set 1 (.slice none 0 0)).set 2 (.slice none 0 0))
    have hms := (((Mod.setCell (F := fun k => k = q) (w2) ⟨q, 0, none⟩ (.slice none 0 0) rfl).trans (Mod.setCell (F := fun k => k = q) (World.setCell (w2) ⟨q, 0, none⟩ (.slice none 0 0)) ⟨q, 1, none⟩ (.slice none 0 0) rfl) (fun _ _ e => e) (fun _ _ e => e)).trans (Mod.setCell (F := fun k => k = q) (World.setCell (World.setCell (w2) ⟨q, 0, none⟩ (.slice none 0 0)) ⟨q, 1, none⟩ (.slice none 0 0)) ⟨q, 2, none⟩ (.slice none 0 0) rfl) (fun _ _ e => e) (fun _ _ e => e))
    (try simp only [Exit.inBlock, Exit.then])
    refine bodyPost_ret (results_row_tmp rfl _ _ q 26 #[.slice none 0 0, .slice none 0 0, .slice none 0 0] (0, 0) _ rfl b2 Try.underlying26 rfl (by kernel_rfl)) rfl ?_
    have hmz := (hm02).old hms (fun i hi => by have h1 : i = q := hi; have h2 := HP.out.2; omega)
    exact .inr ⟨HNO.out, rfl, hmz⟩
  case pos =>
    subst hmi
    have hlit : strOf [77, 73, 76, 69] = ⟨#[77, 73, 76, 69]⟩ := by rfl
    rw [hlit] at k1
    clear hlit hmrg
    have HQ2 := Lib.hid hq2
    have HM2 := Lib.hid hm02
    clear hq2 hm02
    go_wp2_with fail
    clear k1
    refine (mnum_any p w2 (pS1 b) _ hmr2 hg1 2).mono ?_
    rintro e w3 ⟨rfl, hmr3, hmm⟩
    have hmr3 : MR w3 p (pS2 b) w.heap.size := hmr3
    have hg2 : RgS (pS2 b) := rg_num hg1
    have hk := num2_range hg1
    obtain ⟨k1, hk1⟩ := Int.eq_ofNat_of_zero_le hk.1
    rw [hk1]
    have HK1 := Lib.hid hk1
    have hkb1 : k1 ≤ 65535 := by omega
    have HQ3 := Lib.hid (HQ2.out.keep hmm (fun e => by have h1 : q = p := e; omega))
    have HM3 := Lib.hid (HM2.out.trans hmm (H := fun _ => False) (fun _ _ e => e) (fun i hi e => by have h1 : i = p := e; have h2 := HP.out; omega))
    clear hmm hk hk1 hmr2
    go_wp2_with fail
    refine (mnum_any p w3 (pS2 b) _ hmr3 hg2 2).mono ?_
    rintro e w4 ⟨rfl, hmr4, hmm⟩
    have hmr4 : MR w4 p (pS3 b) w.heap.size := hmr4
    have hg3 : RgS (pS3 b) := rg_num hg2
    have hk := num2_range hg2
    obtain ⟨k2, hk2⟩ := Int.eq_ofNat_of_zero_le hk.1
    rw [hk2]
    have HK2 := Lib.hid hk2
    have hkb2 : k2 ≤ 65535 := by omega
    have HQ4 := Lib.hid (HQ3.out.keep hmm (fun e => by have h1 : q = p := e; omega))
    have HM4 := Lib.hid (HM3.out.trans hmm (H := fun _ => False) (fun _ _ e => e) (fun i hi e => by have h1 : i = p := e; have h2 := HP.out; omega))
    clear hmm hk hk2 hmr3
    go_wp2_with fail
    refine (mnum_any p w4 (pS3 b) _ hmr4 hg3 2).mono ?_
    rintro e w5 ⟨rfl, hmr5, hmm⟩
    have hmr5 : MR w5 p (pS4 b) w.heap.size := hmr5
    have hg4 : RgS (pS4 b) := rg_num hg3
    have hk := num2_range hg3
    obtain ⟨k3, hk3⟩ := Int.eq_ofNat_of_zero_le hk.1
    rw [hk3]
    have HK3 := Lib.hid hk3
    have hkb3 : k3 ≤ 65535 := by omega
    have HQ5 := Lib.hid (HQ4.out.keep hmm (fun e => by have h1 : q = p := e; omega))
    have HM5 := Lib.hid (HM4.out.trans hmm (H := fun _ => False) (fun _ _ e => e) (fun i hi e => by have h1 : i = p := e; have h2 := HP.out; omega))
    clear hmm hk hk3 hmr4
    by_cases hx1 : k1 ≤ 256
    case neg =>
      have HNO : Hid (¬ OkG b) := Lib.hid (fun h => hx1 (by have := (ok_ref h).2.2.1; rw [HK1.out] at this; omega))
      have z : decide ((256 : Int) < (k1 : Int)) = true := by simp; omega
      clear hx1
      have hqq := HQ5.out
      have c0 := hqq.cell 0 rfl
      have c1 := hqq.cell 1 rfl
      have c2 := hqq.cell 2 rfl
      have f0 := hqq.free 0
      have f1 := hqq.free 1
      have f2 := hqq.free 2
      have lq := hqq.lt
      have HQQ := Lib.hid hqq
      clear hqq
      go_wp2_with fail
      have b2 := (((HQQ.out.set 0 (.slice none 0 0)).set 1 (.slice none 0 0)).set 2 (.slice none 0 0))
      have hms := (((Mod.setCell (F := fun k => k = q) (w5) ⟨q, 0, none⟩ (.slice none 0 0) rfl).trans (Mod.setCell (F := fun k => k = q) (World.setCell (w5) ⟨q, 0, none⟩ (.slice none 0 0)) ⟨q, 1, none⟩ (.slice none 0 0) rfl) (fun _ _ e => e) (fun _ _ e => e)).trans (Mod.setCell (F := fun k => k = q) (World.setCell (World.setCell (w5) ⟨q, 0, none⟩ (.slice none 0 0)) ⟨q, 1, none⟩ (.slice none 0 0)) ⟨q, 2, none⟩ (.slice none 0 0) rfl) (fun _ _ e => e) (fun _ _ e => e))
      (try simp only [Exit.inBlock, Exit.then])
      refine bodyPost_ret (results_row_tmp rfl _ _ q 26 #[.slice none 0 0, .slice none 0 0, .slice none 0 0] (0, 0) _ rfl b2 Try.underlying26 rfl (by kernel_rfl)) rfl ?_
      have hmz := (HM5.out).old hms (fun i hi => by have h1 : i = q := hi; have h2 := HP.out.2; omega)
      exact .inr ⟨HNO.out, rfl, hmz⟩
    case pos =>
      by_cases hx2 : k2 ≤ 512
      case neg =>
        have HNO : Hid (¬ OkG b) := Lib.hid (fun h => hx2 (by have := (ok_ref h).2.2.2.1; rw [HK2.out] at this; omega))
        have y1 : decide ((256 : Int) < (k1 : Int)) = false := by simp; omega
        have z : decide ((512 : Int) < (k2 : Int)) = true := by simp; omega
        clear hx2
        have hqq := HQ5.out
        have c0 := hqq.cell 0 rfl
        have c1 := hqq.cell 1 rfl
        have c2 := hqq.cell 2 rfl
        have f0 := hqq.free 0
        have f1 := hqq.free 1
        have f2 := hqq.free 2
        have lq := hqq.lt
        have HQQ := Lib.hid hqq
        clear hqq
        go_wp2_with fail
        have b2 := (((HQQ.out.set 0 (.slice none 0 0)).set 1 (.slice none 0 0)).set 2 (.slice none 0 0))
        have hms := (((Mod.setCell (F := fun k => k = q) (w5) ⟨q, 0, none⟩ (.slice none 0 0) rfl).trans (Mod.setCell (F := fun k => k = q) (World.setCell (w5) ⟨q, 0, none⟩ (.slice none 0 0)) ⟨q, 1, none⟩ (.slice none 0 0) rfl) (fun _ _ e => e) (fun _ _ e => e)).trans (Mod.setCell (F := fun k => k = q) (World.setCell (World.setCell (w5) ⟨q, 0, none⟩ (.slice none 0 0)) ⟨q, 1, none⟩ (.slice none 0 0)) ⟨q, 2, none⟩ (.slice none 0 0) rfl) (fun _ _ e => e) (fun _ _ e => e))
        (try simp only [Exit.inBlock, Exit.then])
        refine bodyPost_ret (results_row_tmp rfl _ _ q 26 #[.slice none 0 0, .slice none 0 0, .slice none 0 0] (0, 0) _ rfl b2 Try.underlying26 rfl (by kernel_rfl)) rfl ?_
        have hmz := (HM5.out).old hms (fun i hi => by have h1 : i = q := hi; have h2 := HP.out.2; omega)
        exact .inr ⟨HNO.out, rfl, hmz⟩
      case pos =>
        by_cases hx3 : k3 ≤ 1024
        case neg =>
          have HNO : Hid (¬ OkG b) := Lib.hid (fun h => hx3 (by have := (ok_ref h).2.2.2.2.1; rw [HK3.out] at this; omega))
          have y1 : decide ((256 : Int) < (k1 : Int)) = false := by simp; omega
          have y2 : decide ((512 : Int) < (k2 : Int)) = false := by simp; omega
          have z : decide ((1024 : Int) < (k3 : Int)) = true := by simp; omega
          clear hx3
          have hqq := HQ5.out
          have c0 := hqq.cell 0 rfl
          have c1 := hqq.cell 1 rfl
          have c2 := hqq.cell 2 rfl
          have f0 := hqq.free 0
          have f1 := hqq.free 1
          have f2 := hqq.free 2
          have lq := hqq.lt
          have HQQ := Lib.hid hqq
          clear hqq
          go_wp2_with fail
          have b2 := (((HQQ.out.set 0 (.slice none 0 0)).set 1 (.slice none 0 0)).set 2 (.slice none 0 0))
          have hms := (((Mod.setCell (F := fun k => k = q) (w5) ⟨q, 0, none⟩ (.slice none 0 0) rfl).trans (Mod.setCell (F := fun k => k = q) (World.setCell (w5) ⟨q, 0, none⟩ (.slice none 0 0)) ⟨q, 1, none⟩ (.slice none 0 0) rfl) (fun _ _ e => e) (fun _ _ e => e)).trans (Mod.setCell (F := fun k => k = q) (World.setCell (World.setCell (w5) ⟨q, 0, none⟩ (.slice none 0 0)) ⟨q, 1, none⟩ (.slice none 0 0)) ⟨q, 2, none⟩ (.slice none 0 0) rfl) (fun _ _ e => e) (fun _ _ e => e))
          (try simp only [Exit.inBlock, Exit.then])
          refine bodyPost_ret (results_row_tmp rfl _ _ q 26 #[.slice none 0 0, .slice none 0 0, .slice none 0 0] (0, 0) _ rfl b2 Try.underlying26 rfl (by kernel_rfl)) rfl ?_
          have hmz := (HM5.out).old hms (fun i hi => by have h1 : i = q := hi; have h2 := HP.out.2; omega)
          exact .inr ⟨HNO.out, rfl, hmz⟩
        case pos =>
          have y1 : decide ((256 : Int) < (k1 : Int)) = false := by simp; omega
          have y2 : decide ((512 : Int) < (k2 : Int)) = false := by simp; omega
          have y3 : decide ((1024 : Int) < (k3 : Int)) = false := by simp; omega
          go_upto_region 8 with fail
          obtain ⟨g, hgq⟩ : ∃ g, w5.heap.size = g := ⟨_, rfl⟩
          obtain ⟨w6, hw6⟩ : ∃ W, w5.alloc (.cells #[.slice none 0 0, .slice none 0 0, .slice none 0 0] 26) = W := ⟨_, rfl⟩
          have hgb : Blk w6 g 26 [.slice none 0 0, .slice none 0 0, .slice none 0 0] := by rw [← hw6, ← hgq]; exact Blk.new _ _ _
          have hm6 : Mod (fun _ => False) w5 w6 := by rw [← hw6]; exact Mod.alloc _ _ _
          have hs6 : w6.heap.size = g + 1 := by rw [← hw6, ← hgq]; exact heap_size_alloc _ _
          try rw [hw6]
          try rw [hgq]
          clear hw6 y1 y2 y3
          have hql := HQ5.out.lt
          have hpl : p < w5.heap.size := by obtain ⟨_, _, hb5, _⟩ := hmr5; exact hb5.lt
          have hws := HM5.out.size
          have hRR : RR w w6 p q g (g + 1) (pS4 b) (.slice none 0 0) (.slice none 0 0) (.slice none 0 0) [] [] [] := ⟨hmr5.keep hm6 (fun e => e) (fun _ e => e.elim), hgb, HQ5.out.keep hm6 (fun e => e), ⟨⟨by simp, .inl ⟨rfl, rfl⟩⟩, ⟨by simp, .inl ⟨rfl, rfl⟩⟩, ⟨by simp, .inl ⟨rfl, rfl⟩⟩, fun k hk => by simp [Value.ownBlock] at hk, fun k hk => by simp [Value.ownBlock] at hk, fun k hk => by simp [Value.ownBlock] at hk⟩, HM5.out.of2 hm6, by omega, ⟨by have := HP.out; omega, by have := HP.out; omega, by omega⟩, ⟨by omega, by omega, by omega⟩, by omega, by omega, by omega⟩
          have HRR := Lib.hid hRR
          have HG4 := Lib.hid hg4
          clear hRR hgb hm6 hs6 hgq hql hpl hws hmr5 hg4 hg1 hg2 hg3
          go_wp2_with fail
          go_loopw [9, 10] (fun i _ wr => ∃ (j : Nat) (v : Value), j ≤ k1 ∧ i = .int .i64 j ∧ RR w wr p q g (g + 1) (rdsL rdNode j (pS4 b)).2 v (.slice none 0 0) (.slice none 0 0) (rdsL rdNode j (pS4 b)).1 [] []) (fun i _ _ => k1 - (intOf i).toNat)
          case atStart => exact ⟨0, _, by omega, rfl, HRR.out⟩
          case round =>
            obtain ⟨j, v, hj, rfl, hrr⟩ := hrel
            obtain ⟨s, hs⟩ : ∃ s, (rdsL rdNode j (pS4 b)).2 = s := ⟨_, rfl⟩
            obtain ⟨N, hN⟩ : ∃ l, (rdsL rdNode j (pS4 b)).1 = l := ⟨_, rfl⟩
            have hgs : RgS s := by rw [← hs]; exact rdsL_rg rdNode (fun _ h => rg_node h) j _ HG4.out
            rw [hs, hN] at hrr
            have hlN : N.length = j := by rw [← hN]; exact rdsL_len rdNode j _
            have hsn : rdsL rdNode (j + 1) (pS4 b) = (N ++ [(rdNode s).1], (rdNode s).2) := by rw [rdsL_snoc, hs, hN]
            have HSN := Lib.hid hsn
            have hsp : rdsL rdNode j (pS4 b) = (N, s) := by rw [← hs, ← hN]
            have HSP := Lib.hid hsp
            clear hs hN hsn hsp
            by_cases hlt : j < k1
            case pos =>
              have z0 : decide ((j : Int) < (k1 : Int)) = true := by simp; omega
              go_wp2_with fail
              refine (mnum_any p wr s _ hrr.mr hgs 2).mono ?_
              rintro e wa0 ⟨rfl, hmra, hmm⟩
              have hra0 := hrr.num hmra hmm
              have hga0 : RgS (numR 2 s).2 := rg_num hgs
              clear hmra hmm hrr
              obtain ⟨x, hx⟩ : ∃ z, (numR 2 s).1 = z := ⟨_, rfl⟩
              rw [hx]
              have HX0 := Lib.hid hx
              clear hx
              obtain ⟨s2, hs2⟩ : ∃ z, (numR 2 s).2 = z := ⟨_, rfl⟩
              rw [hs2] at hra0 hga0
              have HS0 := Lib.hid hs2
              clear hs2
              have hown := hra0.tr.o1
              obtain ⟨av, cv, rfl⟩ := own_form hown
              have hgb := hra0.gb
              have qg0 := hgb.cell 0 rfl
              have fg0 := hgb.free 0
              have lg := hgb.lt
              obtain ⟨y, hy⟩ : ∃ z, (numR 2 s2).1 = z := ⟨_, rfl⟩
              have HY := Lib.hid hy
              clear hy hgb
              have HRD : Hid (rdNode s = ((x, y), (numR 2 s2).2)) := Lib.hid (by unfold rdNode; rw [HX0.out, HS0.out, HY.out])
              have hmx1 : N.length + 1 ≤ maxLen := by unfold maxLen; omega
              have hmx2 : (N.length + 1) * 16 ≤ 140737488355328 := by omega
              have HRA := Lib.hid hra0
              go_upto_region 12 with fail
              go_region_law (first | (refine step_append_any rfl (.tmp 51) (.tmp 56) 22 rfl 50 iN (.agg #[.int .i64 0, .int .i64 0]) 2 16 Try.underlying22 hiN hzN hsN hbN rfl (by decide) (.slice av N.length cv) N.length (N.flatMap c2) (by simp [Act.eval, Act.put] <;> omega) (by exact Own.base hownb (Nat.zero_le _)) (.slice (some ⟨wb.heap.size, 0, none⟩) 1 1) 1 [.int .i64 x, .int .i64 y] (by simp [Act.eval, Act.put]) (by exact Rd.litN 50 2 [.int .i64 x, .int .i64 y] (0, 0) _ 1 rfl rfl (by decide)) (by simp [Value.oneCell']) hmx1 hmx2 ?_; intro v' w' hap; obtain ⟨a3, c3, rfl⟩ := hap.form; have hgw := HRC.out.gb.keep hap.mod (fun e => by have h1 := HRC.out.tr.low1 g e; have h2 := HRC.out.d2.2.2; omega); have qw0 := hgw.cell 0 rfl; have fw0 := hgw.free 0; have lw := hgw.lt; have HAP := Lib.hid hap; clear hap hgw) | (go_simp; go_at_call 27; refine (mnum_any p (World.drew wa0) s2 _ (HRA.out.keep (Mod.drew _ _)).mr hga0 2).mono ?_; rintro e wb ⟨rfl, hmrb, hmb⟩; rw [HY.out]; have hrb := (HRA.out.keep (Mod.drew _ _)).num hmrb hmb; have qb0 := hrb.gb.cell 0 rfl; have fb0 := hrb.gb.free 0; have lb := hrb.gb.lt; have hrc := hrb.keep (Mod.alloc (fun _ => False) wb (.cells #[.int .i64 x, .int .i64 y] 50)); have hownb := hrc.tr.o1; have HRC := Lib.hid hrc; clear hrb hmrb hmb hrc))
              all_goals
                go_wp2
                go_roundw
                case rel =>
                  have hpu := HRC.out.pushN (x := (x, y)) (by rw [c2_snoc]; exact HAP.out)
                  rw [hlN] at hpu
                  exact ⟨j + 1, _, hlt, by go_num, by rw [HSN.out, HRD.out]; exact hpu⟩
                case measure => simp [intOf]; omega
            case neg =>
              have hke : j = k1 := by omega
              have z0 : decide ((j : Int) < (k1 : Int)) = false := by rw [hke]; simp
              have heq : (N, s) = rN b := by rw [← HSP.out, hke]; unfold rN; rw [HK1.out]; rfl
              have hN : N = (rN b).1 := congrArg Prod.fst heq
              have hs : s = (rN b).2 := congrArg Prod.snd heq
              subst hN
              subst hs
              obtain ⟨ua1, uc1, rfl⟩ := own_form hrr.tr.o1
              have HRR2 := Lib.hid hrr
              have HGS1 := Lib.hid hgs
              have hln1 : (rN b).1.length = k1 := by rw [hlN, hke]
              clear hrr hgs heq hke hlN HSN HSP
              go_wp2_with fail
              go_loopw [11, 12, 13] (fun i _ _ wr => ∃ (j : Nat) (v : Value), j ≤ k2 ∧ i = .int .i64 j ∧ RR w wr p q g (g + 1) (rdsL rdEdge j (rN b).2).2 (.slice ua1 (rN b).1.length uc1) v (.slice none 0 0) (rN b).1 (rdsL rdEdge j (rN b).2).1 []) (fun i _ _ _ => k2 - (intOf i).toNat)
              case atStart => exact ⟨0, _, by omega, rfl, HRR2.out⟩
              case round =>
                obtain ⟨j, v, hj, rfl, hrr⟩ := hrel
                obtain ⟨s, hs⟩ : ∃ s, (rdsL rdEdge j (rN b).2).2 = s := ⟨_, rfl⟩
                obtain ⟨N, hN⟩ : ∃ l, (rdsL rdEdge j (rN b).2).1 = l := ⟨_, rfl⟩
                have hgs : RgS s := by rw [← hs]; exact rdsL_rg rdEdge (fun _ h => rg_edge h) j _ HGS1.out
                rw [hs, hN] at hrr
                have hlN : N.length = j := by rw [← hN]; exact rdsL_len rdEdge j _
                have hsn : rdsL rdEdge (j + 1) (rN b).2 = (N ++ [(rdEdge s).1], (rdEdge s).2) := by rw [rdsL_snoc, hs, hN]
                have HSN := Lib.hid hsn
                have hsp : rdsL rdEdge j (rN b).2 = (N, s) := by rw [← hs, ← hN]
                have HSP := Lib.hid hsp
                clear hs hN hsn hsp
                by_cases hlt : j < k2
                case pos =>
                  have z0 : decide ((j : Int) < (k2 : Int)) = true := by simp; omega
                  go_wp2_with fail
                  refine (mnum_any p wr s _ hrr.mr hgs 2).mono ?_
                  rintro e wa0 ⟨rfl, hmra, hmm⟩
                  have hra0 := hrr.num hmra hmm
                  have hga0 : RgS (numR 2 s).2 := rg_num hgs
                  clear hmra hmm hrr
                  obtain ⟨x, hx⟩ : ∃ z, (numR 2 s).1 = z := ⟨_, rfl⟩
                  rw [hx]
                  have HX0 := Lib.hid hx
                  clear hx
                  obtain ⟨s2, hs2⟩ : ∃ z, (numR 2 s).2 = z := ⟨_, rfl⟩
                  rw [hs2] at hra0 hga0
                  have HS0 := Lib.hid hs2
                  clear hs2
                  go_wp2_with fail
                  refine (mnum_any p wa0 s2 _ hra0.mr hga0 2).mono ?_
                  rintro e wa1 ⟨rfl, hmra, hmm⟩
                  have hra1 := hra0.num hmra hmm
                  have hga1 : RgS (numR 2 s2).2 := rg_num hga0
                  clear hmra hmm hra0
                  obtain ⟨x2, hx⟩ : ∃ z, (numR 2 s2).1 = z := ⟨_, rfl⟩
                  rw [hx]
                  have HX1 := Lib.hid hx
                  clear hx
                  obtain ⟨s3, hs2⟩ : ∃ z, (numR 2 s2).2 = z := ⟨_, rfl⟩
                  rw [hs2] at hra1 hga1
                  have HS1 := Lib.hid hs2
                  clear hs2
                  have hown := hra1.tr.o2
                  obtain ⟨av, cv, rfl⟩ := own_form hown
                  have hgb := hra1.gb
                  have qg0 := hgb.cell 1 rfl
                  have fg0 := hgb.free 1
                  have lg := hgb.lt
                  obtain ⟨y, hy⟩ : ∃ z, (numR 2 s3).1 = z := ⟨_, rfl⟩
                  have HY := Lib.hid hy
                  clear hy hgb
                  have HRD : Hid (rdEdge s = ((x, x2, y), (numR 2 s3).2)) := Lib.hid (by unfold rdEdge; rw [HX0.out, HS0.out, HX1.out, HS1.out, HY.out])
                  have hmx1 : N.length + 1 ≤ maxLen := by unfold maxLen; omega
                  have hmx2 : (N.length + 1) * 24 ≤ 140737488355328 := by omega
                  have HRA := Lib.hid hra1
                  go_upto_region 18 with fail
                  go_region_law (first | (refine step_append_any rfl (.tmp 69) (.tmp 75) 23 rfl 52 iE (.agg #[.int .i64 0, .int .i64 0, .int .i64 0]) 3 24 Try.underlying23 hiE hzE hsE hbE rfl (by decide) (.slice av N.length cv) N.length (N.flatMap c3) (by simp [Act.eval, Act.put] <;> omega) (by exact Own.base hownb (Nat.zero_le _)) (.slice (some ⟨wb.heap.size, 0, none⟩) 1 1) 1 [.int .i64 x, .int .i64 x2, .int .i64 y] (by simp [Act.eval, Act.put]) (by exact Rd.litN 52 3 [.int .i64 x, .int .i64 x2, .int .i64 y] (0, 0) _ 1 rfl rfl (by decide)) (by simp [Value.oneCell']) hmx1 hmx2 ?_; intro v' w' hap; obtain ⟨a3, c3, rfl⟩ := hap.form; have hgw := HRC.out.gb.keep hap.mod (fun e => by have h1 := HRC.out.tr.low2 g e; have h2 := HRC.out.d2.2.2; omega); have qw0 := hgw.cell 1 rfl; have fw0 := hgw.free 1; have lw := hgw.lt; have HAP := Lib.hid hap; clear hap hgw) | (go_simp; go_at_call 27; refine (mnum_any p (World.drew wa1) s3 _ (HRA.out.keep (Mod.drew _ _)).mr hga1 2).mono ?_; rintro e wb ⟨rfl, hmrb, hmb⟩; rw [HY.out]; have hrb := (HRA.out.keep (Mod.drew _ _)).num hmrb hmb; have qb0 := hrb.gb.cell 1 rfl; have fb0 := hrb.gb.free 1; have lb := hrb.gb.lt; have hrc := hrb.keep (Mod.alloc (fun _ => False) wb (.cells #[.int .i64 x, .int .i64 x2, .int .i64 y] 52)); have hownb := hrc.tr.o2; have HRC := Lib.hid hrc; clear hrb hmrb hmb hrc))
                  all_goals
                    go_wp2
                    go_roundw
                    case rel =>
                      have hpu := HRC.out.pushE (x := (x, x2, y)) (by rw [c3_snoc]; exact HAP.out)
                      rw [hlN] at hpu
                      exact ⟨j + 1, _, hlt, by go_num, by rw [HSN.out, HRD.out]; exact hpu⟩
                    case measure => simp [intOf]; omega
                case neg =>
                  have hke : j = k2 := by omega
                  have z0 : decide ((j : Int) < (k2 : Int)) = false := by rw [hke]; simp
                  have heq : (N, s) = rE b := by rw [← HSP.out, hke]; unfold rE; rw [HK2.out]; rfl
                  have hN : N = (rE b).1 := congrArg Prod.fst heq
                  have hs : s = (rE b).2 := congrArg Prod.snd heq
                  subst hN
                  subst hs
                  obtain ⟨ua2, uc2, rfl⟩ := own_form hrr.tr.o2
                  have HRR3 := Lib.hid hrr
                  have HGS2 := Lib.hid hgs
                  have hln2 : (rE b).1.length = k2 := by rw [hlN, hke]
                  clear hrr hgs heq hke hlN HSN HSP
                  go_wp2_with fail
                  go_loopw [14, 15] (fun i _ wr => ∃ (j : Nat) (v : Value), j ≤ k3 ∧ i = .int .i64 j ∧ RR w wr p q g (g + 1) (rdsL rdNode j (rE b).2).2 (.slice ua1 (rN b).1.length uc1) (.slice ua2 (rE b).1.length uc2) v (rN b).1 (rE b).1 (rdsL rdNode j (rE b).2).1) (fun i _ _ => k3 - (intOf i).toNat)
                  case atStart => exact ⟨0, _, by omega, rfl, HRR3.out⟩
                  case round =>
                    obtain ⟨j, v, hj, rfl, hrr⟩ := hrel
                    obtain ⟨s, hs⟩ : ∃ s, (rdsL rdNode j (rE b).2).2 = s := ⟨_, rfl⟩
                    obtain ⟨N, hN⟩ : ∃ l, (rdsL rdNode j (rE b).2).1 = l := ⟨_, rfl⟩
                    have hgs : RgS s := by rw [← hs]; exact rdsL_rg rdNode (fun _ h => rg_node h) j _ HGS2.out
                    rw [hs, hN] at hrr
                    have hlN : N.length = j := by rw [← hN]; exact rdsL_len rdNode j _
                    have hsn : rdsL rdNode (j + 1) (rE b).2 = (N ++ [(rdNode s).1], (rdNode s).2) := by rw [rdsL_snoc, hs, hN]
                    have HSN := Lib.hid hsn
                    have hsp : rdsL rdNode j (rE b).2 = (N, s) := by rw [← hs, ← hN]
                    have HSP := Lib.hid hsp
                    clear hs hN hsn hsp
                    by_cases hlt : j < k3
                    case pos =>
                      have z0 : decide ((j : Int) < (k3 : Int)) = true := by simp; omega
                      go_wp2_with fail
                      refine (mnum_any p wr s _ hrr.mr hgs 2).mono ?_
                      rintro e wa0 ⟨rfl, hmra, hmm⟩
                      have hra0 := hrr.num hmra hmm
                      have hga0 : RgS (numR 2 s).2 := rg_num hgs
                      clear hmra hmm hrr
                      obtain ⟨x, hx⟩ : ∃ z, (numR 2 s).1 = z := ⟨_, rfl⟩
                      rw [hx]
                      have HX0 := Lib.hid hx
                      clear hx
                      obtain ⟨s2, hs2⟩ : ∃ z, (numR 2 s).2 = z := ⟨_, rfl⟩
                      rw [hs2] at hra0 hga0
                      have HS0 := Lib.hid hs2
                      clear hs2
                      have hown := hra0.tr.o3
                      obtain ⟨av, cv, rfl⟩ := own_form hown
                      have hgb := hra0.gb
                      have qg0 := hgb.cell 2 rfl
                      have fg0 := hgb.free 2
                      have lg := hgb.lt
                      obtain ⟨y, hy⟩ : ∃ z, (numR 2 s2).1 = z := ⟨_, rfl⟩
                      have HY := Lib.hid hy
                      clear hy hgb
                      have HRD : Hid (rdNode s = ((x, y), (numR 2 s2).2)) := Lib.hid (by unfold rdNode; rw [HX0.out, HS0.out, HY.out])
                      have hmx1 : N.length + 1 ≤ maxLen := by unfold maxLen; omega
                      have hmx2 : (N.length + 1) * 16 ≤ 140737488355328 := by omega
                      have HRA := Lib.hid hra0
                      go_upto_region 23 with fail
                      go_region_law (first | (refine step_append_any rfl (.tmp 86) (.tmp 91) 24 rfl 63 iB (.agg #[.int .i64 0, .int .i64 0]) 2 16 Try.underlying24 hiB hzB hsB hbB rfl (by decide) (.slice av N.length cv) N.length (N.flatMap c2) (by simp [Act.eval, Act.put] <;> omega) (by exact Own.base hownb (Nat.zero_le _)) (.slice (some ⟨wb.heap.size, 0, none⟩) 1 1) 1 [.int .i64 x, .int .i64 y] (by simp [Act.eval, Act.put]) (by exact Rd.litN 63 2 [.int .i64 x, .int .i64 y] (0, 0) _ 1 rfl rfl (by decide)) (by simp [Value.oneCell']) hmx1 hmx2 ?_; intro v' w' hap; obtain ⟨a3, c3, rfl⟩ := hap.form; have hgw := HRC.out.gb.keep hap.mod (fun e => by have h1 := HRC.out.tr.low3 g e; have h2 := HRC.out.d2.2.2; omega); have qw0 := hgw.cell 2 rfl; have fw0 := hgw.free 2; have lw := hgw.lt; have HAP := Lib.hid hap; clear hap hgw) | (go_simp; go_at_call 27; refine (mnum_any p (World.drew wa0) s2 _ (HRA.out.keep (Mod.drew _ _)).mr hga0 2).mono ?_; rintro e wb ⟨rfl, hmrb, hmb⟩; rw [HY.out]; have hrb := (HRA.out.keep (Mod.drew _ _)).num hmrb hmb; have qb0 := hrb.gb.cell 2 rfl; have fb0 := hrb.gb.free 2; have lb := hrb.gb.lt; have hrc := hrb.keep (Mod.alloc (fun _ => False) wb (.cells #[.int .i64 x, .int .i64 y] 63)); have hownb := hrc.tr.o3; have HRC := Lib.hid hrc; clear hrb hmrb hmb hrc))
                      all_goals
                        go_wp2
                        go_roundw
                        case rel =>
                          have hpu := HRC.out.pushB (x := (x, y)) (by rw [c2_snoc]; exact HAP.out)
                          rw [hlN] at hpu
                          exact ⟨j + 1, _, hlt, by go_num, by rw [HSN.out, HRD.out]; exact hpu⟩
                        case measure => simp [intOf]; omega
                    case neg =>
                      have hke : j = k3 := by omega
                      have z0 : decide ((j : Int) < (k3 : Int)) = false := by rw [hke]; simp
                      have heq : (N, s) = rB b := by rw [← HSP.out, hke]; unfold rB; rw [HK3.out]; rfl
                      have hN : N = (rB b).1 := congrArg Prod.fst heq
                      have hs : s = (rB b).2 := congrArg Prod.snd heq
                      subst hN
                      subst hs
                      obtain ⟨ua3, uc3, rfl⟩ := own_form hrr.tr.o3
                      have HRR4 := Lib.hid hrr
                      have HGS3 := Lib.hid hgs
                      have hln3 : (rB b).1.length = k3 := by rw [hlN, hke]
                      clear hrr hgs heq hke hlN HSN HSP
                      go_wp2_with fail
                      clear z0
                      refine (mnum_any p wr (rB b).2 _ HRR4.out.mr HGS3.out 4).mono ?_
                      rintro e w7 ⟨rfl, hmr7, hmm⟩
                      have h7 := HRR4.out.num hmr7 hmm
                      clear hmr7 hmm
                      obtain ⟨s4, hs4⟩ : ∃ z, (numR 4 (rB b).2).2 = z := ⟨_, rfl⟩
                      rw [hs4] at h7
                      have HS4 := Lib.hid hs4
                      clear hs4
                      obtain ⟨l1, hl1⟩ : ∃ z, (rN b).1.length = z := ⟨_, rfl⟩
                      obtain ⟨l2, hl2⟩ : ∃ z, (rE b).1.length = z := ⟨_, rfl⟩
                      obtain ⟨l3, hl3⟩ : ∃ z, (rB b).1.length = z := ⟨_, rfl⟩
                      have hgv : GV w7 ua1 l1 uc1 ua2 l2 uc2 ua3 l3 uc3 (refG b) := ⟨hl1, hl2, hl3, by rw [← hl1]; exact Rd.ofOwn h7.tr.o1, by rw [← hl2]; exact Rd.ofOwn h7.tr.o2, by rw [← hl3]; exact Rd.ofOwn h7.tr.o3⟩
                      have hq1 : l1 ≤ 100000 := by omega
                      have hq2 : l2 ≤ 100000 := by omega
                      have hq3 : l3 ≤ 100000 := by omega
                      rw [hl1, hl2, hl3] at h7
                      clear hln1 hln2 hln3 HRR HRR2 HRR3
                      have hgb := h7.gb
                      have qg0 := hgb.cell 0 rfl
                      have qg1 := hgb.cell 1 rfl
                      have qg2 := hgb.cell 2 rfl
                      have lg := hgb.lt
                      have H7 := Lib.hid h7
                      have HGV := Lib.hid hgv
                      have HL1 := Lib.hid hl1
                      have HL2 := Lib.hid hl2
                      have HL3 := Lib.hid hl3
                      clear hgb h7 hgv hl1 hl2 hl3 HRR4
                      skip
                      go_wp2_with fail
                      refine (rfile_any (refG b) w7 ua1 l1 uc1 ua2 l2 uc2 ua3 l3 uc3 HGV.out hq1 hq2 hq3).mono ?_
                      rintro e w8 hp
                      rcases hp with ⟨hmay, xa, xc, rfl, ho, hm8⟩ | ⟨hnm, rfl, hm8⟩
                      case inr =>
                        have HNO : Hid (¬ OkG b) := Lib.hid (fun h => hnm (by rw [(ok_ref h).1]; exact h.1))
                        have h8 := H7.out.keep hm8
                        have H8 := Lib.hid h8
                        have HM8 := Lib.hid hm8
                        clear qg0 qg1 qg2 lg hm8
                        go_wp2_with fail
                        refine (mdone_any p w8 s4 _ h8.mr).mono ?_
                        rintro e wd ⟨rfl, hwd⟩
                        subst hwd
                        clear h8
                        generalize decide (s4 = some []) = d
                        cases d
                        all_goals
                          have hqq := H8.out.qb
                          have c0 := hqq.cell 0 rfl
                          have c1 := hqq.cell 1 rfl
                          have c2 := hqq.cell 2 rfl
                          have f0 := hqq.free 0
                          have f1 := hqq.free 1
                          have f2 := hqq.free 2
                          have lq := hqq.lt
                          have HQQ := Lib.hid hqq
                          clear hqq
                          go_wp2_with fail
                          have b2 := (((HQQ.out.set 0 (.slice none 0 0)).set 1 (.slice none 0 0)).set 2 (.slice none 0 0))
                          have hms := (((Mod.setCell (F := fun k => k = q) (w8) ⟨q, 0, none⟩ (.slice none 0 0) rfl).trans (Mod.setCell (F := fun k => k = q) (World.setCell (w8) ⟨q, 0, none⟩ (.slice none 0 0)) ⟨q, 1, none⟩ (.slice none 0 0) rfl) (fun _ _ e => e) (fun _ _ e => e)).trans (Mod.setCell (F := fun k => k = q) (World.setCell (World.setCell (w8) ⟨q, 0, none⟩ (.slice none 0 0)) ⟨q, 1, none⟩ (.slice none 0 0)) ⟨q, 2, none⟩ (.slice none 0 0) rfl) (fun _ _ e => e) (fun _ _ e => e))
                          (try simp only [Exit.inBlock, Exit.then])
                          refine bodyPost_ret (results_row_tmp rfl _ _ q 26 #[.slice none 0 0, .slice none 0 0, .slice none 0 0] (0, 0) _ rfl b2 Try.underlying26 rfl (by kernel_rfl)) rfl ?_
                          have hmz := (H8.out.md).old hms (fun i hi => by have h1 : i = q := hi; have h2 := HP.out.2; omega)
                          exact .inr ⟨HNO.out, rfl, hmz⟩
                      case inl =>
                        obtain ⟨L, hL⟩ : ∃ z, (fileG (refG b)).length = z := ⟨_, rfl⟩
                        rw [hL] at ho ⊢
                        have HRF := Lib.hid (Rd.ofOwn ho)
                        have HMAY := Lib.hid hmay
                        clear hL ho hmay
                        have h8 := H7.out.keep hm8
                        have H8 := Lib.hid h8
                        have HM8 := Lib.hid hm8
                        clear qg0 qg1 qg2 lg hm8
                        go_wp2_with fail
                        refine (mdone_any p w8 s4 _ h8.mr).mono ?_
                        rintro e wd ⟨rfl, hwd⟩
                        subst hwd
                        clear h8
                        have k1 := run_strS w8 27 9 5 Try.underlying27 Try.underlying5 Try.underlying9 HRF.out
                        have k2 := run_strS w8 27 9 5 Try.underlying27 Try.underlying5 Try.underlying9 (HR.out.keep H8.out.md (fun _ _ e => e))
                        obtain ⟨X, hX⟩ : ∃ z, strOf (fileG (refG b)) = z := ⟨_, rfl⟩
                        obtain ⟨Y, hY⟩ : ∃ z, strOf b = z := ⟨_, rfl⟩
                        rw [hX] at k1
                        rw [hY] at k2
                        have HX := Lib.hid hX
                        have HY := Lib.hid hY
                        clear hX hY
                        by_cases hd : s4 = some []
                        case neg =>
                          have HNO : Hid (¬ OkG b) := Lib.hid (fun h => hd (by rw [← HS4.out]; exact (ok_ref h).2.2.2.2.2))
                          rw [decide_eq_false hd]
                          clear hd k1 k2
                          have hqq := H8.out.qb
                          have c0 := hqq.cell 0 rfl
                          have c1 := hqq.cell 1 rfl
                          have c2 := hqq.cell 2 rfl
                          have f0 := hqq.free 0
                          have f1 := hqq.free 1
                          have f2 := hqq.free 2
                          have lq := hqq.lt
                          have HQQ := Lib.hid hqq
                          clear hqq
                          go_wp2_with fail
                          have b2 := (((HQQ.out.set 0 (.slice none 0 0)).set 1 (.slice none 0 0)).set 2 (.slice none 0 0))
                          have hms := (((Mod.setCell (F := fun k => k = q) (w8) ⟨q, 0, none⟩ (.slice none 0 0) rfl).trans (Mod.setCell (F := fun k => k = q) (World.setCell (w8) ⟨q, 0, none⟩ (.slice none 0 0)) ⟨q, 1, none⟩ (.slice none 0 0) rfl) (fun _ _ e => e) (fun _ _ e => e)).trans (Mod.setCell (F := fun k => k = q) (World.setCell (World.setCell (w8) ⟨q, 0, none⟩ (.slice none 0 0)) ⟨q, 1, none⟩ (.slice none 0 0)) ⟨q, 2, none⟩ (.slice none 0 0) rfl) (fun _ _ e => e) (fun _ _ e => e))
                          (try simp only [Exit.inBlock, Exit.then])
                          refine bodyPost_ret (results_row_tmp rfl _ _ q 26 #[.slice none 0 0, .slice none 0 0, .slice none 0 0] (0, 0) _ rfl b2 Try.underlying26 rfl (by kernel_rfl)) rfl ?_
                          have hmz := (H8.out.md).old hms (fun i hi => by have h1 : i = q := hi; have h2 := HP.out.2; omega)
                          exact .inr ⟨HNO.out, rfl, hmz⟩
                        case pos =>
                          rw [decide_eq_true hd]
                          clear hd
                          by_cases hfe : fileG (refG b) = b
                          case neg =>
                            have HNO : Hid (¬ OkG b) := Lib.hid (fun h => hfe (by rw [(ok_ref h).1]; exact h.2))
                            have hxy : (X.toList == Y.toList) = false := by rw [← beq_toListBytes, ← HX.out, ← HY.out]; exact bytes_beq_ne3 (fun e => hfe (strOf_inj3 (fileG_range _) HB.out e))
                            clear hfe
                            have hqq := H8.out.qb
                            have c0 := hqq.cell 0 rfl
                            have c1 := hqq.cell 1 rfl
                            have c2 := hqq.cell 2 rfl
                            have f0 := hqq.free 0
                            have f1 := hqq.free 1
                            have f2 := hqq.free 2
                            have lq := hqq.lt
                            have HQQ := Lib.hid hqq
                            clear hqq
                            go_wp2_with fail
                            have b2 := (((HQQ.out.set 0 (.slice none 0 0)).set 1 (.slice none 0 0)).set 2 (.slice none 0 0))
                            have hms := (((Mod.setCell (F := fun k => k = q) (w8) ⟨q, 0, none⟩ (.slice none 0 0) rfl).trans (Mod.setCell (F := fun k => k = q) (World.setCell (w8) ⟨q, 0, none⟩ (.slice none 0 0)) ⟨q, 1, none⟩ (.slice none 0 0) rfl) (fun _ _ e => e) (fun _ _ e => e)).trans (Mod.setCell (F := fun k => k = q) (World.setCell (World.setCell (w8) ⟨q, 0, none⟩ (.slice none 0 0)) ⟨q, 1, none⟩ (.slice none 0 0)) ⟨q, 2, none⟩ (.slice none 0 0) rfl) (fun _ _ e => e) (fun _ _ e => e))
                            (try simp only [Exit.inBlock, Exit.then])
                            refine bodyPost_ret (results_row_tmp rfl _ _ q 26 #[.slice none 0 0, .slice none 0 0, .slice none 0 0] (0, 0) _ rfl b2 Try.underlying26 rfl (by kernel_rfl)) rfl ?_
                            have hmz := (H8.out.md).old hms (fun i hi => by have h1 : i = q := hi; have h2 := HP.out.2; omega)
                            exact .inr ⟨HNO.out, rfl, hmz⟩
                          case pos =>
                            have hok := ref_ok HMAY.out hfe
                            have hxe : X = Y := by rw [← HX.out, ← HY.out, hfe]
                            subst hxe
                            have HOK := Lib.hid hok
                            clear hfe hok HX HY
                            have hqq := H8.out.qb
                            have c0 := hqq.cell 0 rfl
                            have c1 := hqq.cell 1 rfl
                            have c2 := hqq.cell 2 rfl
                            have f0 := hqq.free 0
                            have f1 := hqq.free 1
                            have f2 := hqq.free 2
                            have lq := hqq.lt
                            have HQQ := Lib.hid hqq
                            have hgb := H8.out.gb
                            have qg0 := hgb.cell 0 rfl
                            have qg1 := hgb.cell 1 rfl
                            have qg2 := hgb.cell 2 rfl
                            have lg := hgb.lt
                            clear hqq hgb
                            go_wp2_with fail
                            have b2 := (((HQQ.out.set 0 (.slice ua1 l1 uc1)).set 1 (.slice ua2 l2 uc2)).set 2 (.slice ua3 l3 uc3))
                            have hms := (((Mod.setCell (F := fun k => k = q) (w8) ⟨q, 0, none⟩ (.slice ua1 l1 uc1) rfl).trans (Mod.setCell (F := fun k => k = q) (World.setCell (w8) ⟨q, 0, none⟩ (.slice ua1 l1 uc1)) ⟨q, 1, none⟩ (.slice ua2 l2 uc2) rfl) (fun _ _ e => e) (fun _ _ e => e)).trans (Mod.setCell (F := fun k => k = q) (World.setCell (World.setCell (w8) ⟨q, 0, none⟩ (.slice ua1 l1 uc1)) ⟨q, 1, none⟩ (.slice ua2 l2 uc2)) ⟨q, 2, none⟩ (.slice ua3 l3 uc3) rfl) (fun _ _ e => e) (fun _ _ e => e))
                            (try simp only [Exit.inBlock, Exit.then])
                            refine bodyPost_ret (results_row_tmp rfl _ _ q 26 #[.slice ua1 l1 uc1, .slice ua2 l2 uc2, .slice ua3 l3 uc3] (0, 0) _ rfl b2 Try.underlying26 rfl (by kernel_rfl)) rfl ?_
                            have hmz := (H8.out.md).old hms (fun i hi => by have h1 : i = q := hi; have h2 := HP.out.2; omega)
                            have h8 := H8.out
                            have hg8 := HGV.out.keep HM8.out
                            rw [(ok_ref HOK.out).1] at hg8
                            refine .inl ⟨HOK.out, ua1, l1, uc1, ua2, l2, uc2, ua3, l3, uc3, rfl, ⟨hg8.n, hg8.e, hg8.b, hg8.rn.keepA hms (fun k hk e => ?_), hg8.re.keepA hms (fun k hk e => ?_), hg8.rb.keepA hms (fun k hk e => ?_)⟩, hmz⟩
                            · have h1 := h8.tr.low1 k hk; have h2 : k = q := e; have h3 := h8.d2.2.1; omega
                            · have h1 := h8.tr.low2 k hk; have h2 : k = q := e; have h3 := h8.d2.2.1; omega
                            · have h1 := h8.tr.low3 k hk; have h2 : k = q := e; have h3 := h8.d2.2.1; omega
end Go.Proofs.Ytdccpikddhpleaa
