/- The reference's To (how far it is) by contract. -/
import Derived.Test.YtbjdjafkpldbnaaKBid
import Derived.Test.YtbjdjafkpldbnaaKDist
import Derived.Test.YtbjdjafkpldbnaaRArcs
import Derived.Test.YtbjdjafkpldbnaaR4n
import Derived.Deep.DeepCutAuto
import Derived.Deep.CutBlock
namespace Go.Proofs.Ytbjdjafkpldbnaa
open Go.RowKit Mile
set_option maxRecDepth 100000

set_option maxHeartbeats 2000000 in
theorem r4closed_any (w : World) (a : Option Addr) (n c : Nat) (cl : List Bool) (hn : cl.length = n) (hr : Rd w 1 (.slice a n c) n (cl.map Value.bool)) (e : Int) :
    Calls Try.prog 33 #[.slice a n c, .int .i64 e] w fun x w' => x = .returned (.bool (clB cl e)) ∧ w = w' := by
  obtain ⟨iI, hiI, hzI, hsI, hbI⟩ := info_parts GR.infoBo
  by_cases h0 : 0 ≤ e
  · obtain ⟨k, rfl⟩ := Int.eq_ofNat_of_zero_le h0
    have hc : clB cl (k : Int) = cl.getD k false := by unfold clB; simp
    by_cases hk : k < n
    · obtain ⟨eb, eo, hpl, e0⟩ := rdb hr k (by omega)
      have hix := fun wx => run_indexS (P := Try.prog) wx 32 4 iI 1 Try.underlying32 hiI hsI a n c k hk (hr.some_ (by omega))
      rw [hpl] at hix
      have hg : cl.getD k false = cl[k]'(by omega) := by simp [List.getD, show k < cl.length by omega]
      obtain ⟨x, hx⟩ : ∃ x, cl[k]'(by omega) = x := ⟨_, rfl⟩
      rw [hg, hx] at hc
      rw [hx] at e0
      have z0 : decide ((k : Int) < (n : Int)) = true := by simp; omega
      rw [hc]
      clear hc hg hx hpl
      go_enter Try.func33, Try.ntmps33
      go_wp2_with fail
      go_ret
      exact ⟨by simp, rfl⟩
    · have hg : cl.getD k false = false := by simp [List.getD, show cl.length ≤ k by omega]
      rw [hc, hg]
      have z0 : decide ((k : Int) < (n : Int)) = false := by simp; omega
      clear hc hg
      go_enter Try.func33, Try.ntmps33
      go_wp2_with fail
      go_ret
      exact ⟨by simp, rfl⟩
  · have hc : clB cl e = false := by unfold clB; simp [h0]
    rw [hc]
    have z0 : decide (0 ≤ e) = false := by simpa using h0
    clear hc
    go_enter Try.func33, Try.ntmps33
    go_wp2_with fail
    go_ret
    exact ⟨by simp, rfl⟩
theorem own_at {w : World} {B rb m c : Nat} {d : List Int} (h : w.ownsRow B 3 1 (.slice (some ⟨rb, 0, none⟩) m c) m (d.map (Value.int .i64))) (i : Nat) (hi : i < m) : w.cell? ⟨rb, i, none⟩ = some (.int .i64 (dAt d i)) := by
  have hl : d.length = m := by have := h.1; simpa using this
  have := (Rd.ofOwn h).at_ (i := i) (u := .int .i64 (dAt d i)) (by rw [dAt_eq d i (by omega)]; simp [hl, hi])
  simpa using this
theorem own_ix (iI : TypeInfo) (hiI : Try.prog.info? 3 = some iI) (hsI : iI.size = 1) (rb m i : Nat) (hi : i < m) (wx : World) : (Instr.indexAt 22 (.slice (some ⟨rb, 0, none⟩) m m) (.int .i64 (i : Int))).run Try.prog wx = .ok (.pointer (some ⟨rb, i, none⟩)) wx := by
  have h := run_indexS (P := Try.prog) wx 22 3 iI 1 Try.underlying22 hiI hsI (some ⟨rb, 0, none⟩) m m i hi (by simp)
  have hp := (show elemA (some ⟨rb, 0, none⟩) i 1 = ⟨rb, i, none⟩ by unfold elemA; rw [Option.getD_some, Addr.add_lit, Nat.zero_add, Nat.mul_one])
  rw [hp] at h; exact h
theorem own_lt {w : World} {B rb m c : Nat} {xs : List Value} (h : w.ownsRow B 3 1 (.slice (some ⟨rb, 0, none⟩) m c) m xs) : rb < w.heap.size := by
  rcases h.2 with ⟨e, _⟩ | ⟨g, cap, cur, he, hb, hg, _⟩
  · cases e
  · cases he; exact lt_of_block hg
/-- What To tells. -/
def rdtoP (G : GD) (hm : May G) (v : Int) (cl : List Bool) (w : World) (e : Ending) (w' : World) : Prop :=
  ((0 ≤ v ∧ v < (G.N.length : Int)) ∧ ∃ x, e = .returned x ∧ DRow (webTo G hm v cl) w.heap.size x w' ∧ Mod (fun _ => False) w w') ∨ (¬ (0 ≤ v ∧ v < (G.N.length : Int)) ∧ e = .returned (.slice none 0 0) ∧ Mod (fun _ => False) w w')
/-- What each operation of the statement leaves. -/
def rto_r19_0_F (n2 : Nat) (rb : Nat) (kb1 : Nat) (wz : Int) (b12 : Nat) (xs : Int) : List (Value → World → Prop) :=
  [IsV (.slice (some ⟨rb, 0, none⟩) n2 n2),
   IsV (.pointer (some ⟨b12, 1, none⟩)),
   IsV (.int .i64 (kb1 : Int)),
   IsV (.pointer (some ⟨rb, kb1, none⟩)),
   IsV (.int .i64 xs),
   IsV (.pointer (some ⟨b12, 2, none⟩)),
   IsV (.int .i64 wz),
   IsV (.int .i64 (xs + wz)),
   IsV (.int .i64 (xs + wz))]
def rto_r19_0_D : List (List Nat) := [[], [], [1], [0, 2], [3], [], [5], [4, 6], [7]]

set_option maxHeartbeats 16000000 in
theorem r4to_any (G : GD) (hm : May G) (w : World) (a1 : Option Addr) (n1 d1 : Nat) (a2 : Option Addr) (n2 d2 : Nat) (a3 : Option Addr) (n3 d3 : Nat) (h : GV w a1 n1 d1 a2 n2 d2 a3 n3 d3 G) (v : Int) (a : Option Addr) (n c : Nat) (cl : List Bool) (hn : cl.length = n) (hr : Rd w 1 (.slice a n c) n (cl.map Value.bool)) :
    Calls Try.prog 16 #[.agg #[.slice a1 n1 d1, .slice a2 n2 d2, .slice a3 n3 d3], .int .i64 v, .slice a n c] w (rdtoP G hm v cl w) := by
  have HS : Hid (Ev (Mod (fun _ => False) w) w) := Lib.hid (Ev.mod w)
  replace HS := Lib.hid ((Ev.gv h).and HS.out)
  replace HS := Lib.hid ((Ev.rd hr).and HS.out)
  have he := Lib.hid h.e
  have hnn := Lib.hid h.n
  have hb3 := Lib.hid h.b
  have HN := Lib.hid hn
  clear h hr hn
  obtain ⟨iI, hiI, hzI, hsI, hbI⟩ := info_parts GR.infoI
  obtain ⟨iE, hiE, hzE, hsE, hbE⟩ := info_parts GR.infoE
  obtain ⟨iA, hiA, hzA, hsA, hbA⟩ := info_parts infoA
  have hes : n2 ≤ 512 := by rw [← he.out]; exact hm.1.2.1
  have hns : n1 ≤ 256 := by rw [← hnn.out]; exact hm.1.1.2
  have hbs : n3 ≤ 1024 := by rw [← hb3.out]; exact hm.1.2.2
  by_cases hv : 0 ≤ v ∧ v < (G.N.length : Int)
  case neg =>
    go_enter Try.func16, Try.ntmps16
    go_upto_region 1 with fail
    obtain ⟨bx, hbx⟩ : ∃ b, w.heap.size = b := ⟨_, rfl⟩
    obtain ⟨wq1, hwq1⟩ : ∃ W, World.alloc w (.cells #[.slice a1 n1 d1, .slice a2 n2 d2, .slice a3 n3 d3] 28) = W := ⟨_, rfl⟩
    have hBbx : Blk wq1 bx 28 [.slice a1 n1 d1, .slice a2 n2 d2, .slice a3 n3 d3] := by rw [← hwq1, ← hbx]; exact Blk.new _ 28 [.slice a1 n1 d1, .slice a2 n2 d2, .slice a3 n3 d3]
    have hzbx : wq1.heap.size = bx + 1 := by rw [← hwq1, ← hbx]; exact heap_size_alloc _ _
    replace HS := Lib.hid (HS.out.step (w' := wq1) (by rw [← hwq1]; exact Mod.alloc _ _ _))
    replace HS := Lib.hid ((Ev.blk hBbx).and HS.out)
    try rw [hwq1]
    try rw [hbx]
    clear hzbx hBbx hbx hwq1
    have hbbx := (HS.out.now).1
    have qbx_0 := hbbx.cell 0 rfl
    have qbx_1 := hbbx.cell 1 rfl
    have qbx_2 := hbbx.cell 2 rfl
    have lbx := hbbx.lt
    clear hbbx
    go_wp2_with fail
    refine (r4node_any G _ a1 n1 d1 a2 n2 d2 a3 n3 d3 ((HS.out.now).2.2.1) (by omega) v).mono ?_
    rintro e wq2 ⟨rfl, hmm⟩
    replace HS := Lib.hid (HS.out.step hmm)
    clear hmm
    clear qbx_0 qbx_1 qbx_2 lbx
    have hbbx := (HS.out.now).1
    have qbx_0 := hbbx.cell 0 rfl
    have qbx_1 := hbbx.cell 1 rfl
    have qbx_2 := hbbx.cell 2 rfl
    have lbx := hbbx.lt
    clear hbbx
    rw [decide_eq_false hv]
    go_wp2_with fail
    go_ret
    exact .inr ⟨hv, rfl, (HS.out.now).2.2.2⟩
  case pos =>
    go_enter Try.func16, Try.ntmps16
    go_upto_region 1 with fail
    obtain ⟨bx, hbx⟩ : ∃ b, w.heap.size = b := ⟨_, rfl⟩
    obtain ⟨wq3, hwq3⟩ : ∃ W, World.alloc w (.cells #[.slice a1 n1 d1, .slice a2 n2 d2, .slice a3 n3 d3] 28) = W := ⟨_, rfl⟩
    have hBbx : Blk wq3 bx 28 [.slice a1 n1 d1, .slice a2 n2 d2, .slice a3 n3 d3] := by rw [← hwq3, ← hbx]; exact Blk.new _ 28 [.slice a1 n1 d1, .slice a2 n2 d2, .slice a3 n3 d3]
    have hzbx : wq3.heap.size = bx + 1 := by rw [← hwq3, ← hbx]; exact heap_size_alloc _ _
    replace HS := Lib.hid (HS.out.step (w' := wq3) (by rw [← hwq3]; exact Mod.alloc _ _ _))
    replace HS := Lib.hid ((Ev.blk hBbx).and HS.out)
    try rw [hwq3]
    try rw [hbx]
    clear hzbx hBbx hbx hwq3
    have hbbx := (HS.out.now).1
    have qbx_0 := hbbx.cell 0 rfl
    have qbx_1 := hbbx.cell 1 rfl
    have qbx_2 := hbbx.cell 2 rfl
    have lbx := hbbx.lt
    clear hbbx
    go_wp2_with fail
    refine (r4node_any G _ a1 n1 d1 a2 n2 d2 a3 n3 d3 ((HS.out.now).2.2.1) (by omega) v).mono ?_
    rintro e wq4 ⟨rfl, hmm⟩
    replace HS := Lib.hid (HS.out.step hmm)
    clear hmm
    clear qbx_0 qbx_1 qbx_2 lbx
    have hbbx := (HS.out.now).1
    have qbx_0 := hbbx.cell 0 rfl
    have qbx_1 := hbbx.cell 1 rfl
    have qbx_2 := hbbx.cell 2 rfl
    have lbx := hbbx.lt
    clear hbbx
    rw [decide_eq_true hv]
    have HV := Lib.hid hv
    clear hv
    have hmk := fun wx => run_makeS (P := Try.prog) 22 3 iI (.int .i64 0) Try.underlying22 hiI hzI rfl hsI n2 (by rw [hbI]; omega) (by omega) wx
    have ho0 := own_zrow wq4 3 (.int .i64 0) n2 wq4.heap.size rfl (by omega)
    obtain ⟨rb, hrb⟩ : ∃ b, wq4.heap.size = b := ⟨_, rfl⟩
    obtain ⟨w1, hw1⟩ : ∃ W, wq4.alloc (.cells (zrow (.int .i64 0) n2) 3) = W := ⟨_, rfl⟩
    have hm1 : Mod (fun _ => False) wq4 w1 := by rw [← hw1]; exact Mod.alloc _ _ _
    have hmk2 := hmk wq4
    rw [hw1, hrb] at hmk2 ho0
    have hrb1 : rb < w1.heap.size := by rw [← hw1, ← hrb]; simp
    clear hmk
    go_wp2_with fail
    clear hmk2 hw1
    have HRB := Lib.hid hrb
    clear hrb
    have HSB := HS
    clear qbx_0 qbx_1 qbx_2 lbx
    obtain ⟨s, hs⟩ : ∃ s : Nat → Bool, (fun e : Nat => (eAt G (e : Int)).2.1 == v) = s := ⟨_, rfl⟩
    have hse : ∀ e : Nat, (webTo G hm v cl).st e ↔ s e = true := fun e => by rw [← hs]; show (eAt G (e : Int)).2.1 = v ↔ _; simp
    have hsa : ∀ e : Nat, s e = ((eAt G (e : Int)).2.1 == v) := fun e => by rw [← hs]
    have HSE := Lib.hid hse
    have HSA := Lib.hid hsa
    clear hs hse hsa
    have hz0 : inL s n2 0 = List.replicate n2 0 := by simp [inL]
    have hd0 : World.ownsRow w1 0 3 1 (.slice (some ⟨rb, 0, none⟩) n2 n2) n2 ((inL s n2 0).map (Value.int .i64)) := by rw [hz0, List.map_replicate]; exact ho0
    have HD0 := Lib.hid hd0
    have HM1 := Lib.hid hm1
    clear hd0 ho0 hm1 hz0
    go_loopw [8] (fun i wr => ∃ k : Nat, k ≤ n2 ∧ i = .int .i64 k ∧ World.ownsRow wr 0 3 1 (.slice (some ⟨rb, 0, none⟩) n2 n2) n2 ((inL s n2 k).map (Value.int .i64)) ∧ Mod (fun _ => False) wq4 wr) (fun i _ => n2 - (intOf i).toNat)
    case atStart => exact ⟨0, by omega, rfl, HD0.out, HM1.out⟩
    case round =>
      obtain ⟨k, hk, rfl, hrow, hmr⟩ := hrel
      obtain ⟨wo, hwo⟩ : ∃ x : World, x = wr := ⟨_, rfl⟩
      subst hwo
      clear HS
      have HS := Lib.hid (HSB.out.step hmr)
      have hbbx := (HS.out.now).1
      have qbx_0 := hbbx.cell 0 rfl
      have qbx_1 := hbbx.cell 1 rfl
      have qbx_2 := hbbx.cell 2 rfl
      have lbx := hbbx.lt
      clear hbbx
      have HROW := Lib.hid hrow
      have HMR := Lib.hid hmr
      clear hrow hmr
      by_cases hlt : k < n2
      case pos =>
        have z0 : decide ((k : Int) < (n2 : Int)) = true := by simp; omega
        have hixk := fun wx => own_ix iI hiI hsI rb n2 k hlt wx
        have hroom := Room.ofOwn HROW.out k (by omega)
        obtain ⟨v0, q0⟩ := hroom.cell
        have q1 := hroom.free
        have hst := (HROW.out.stored k (.int .i64 (-1))).1
        rw [← List.map_set] at hst
        have hkl : k < G.E.length := by rw [he.out]; exact hlt
        obtain ⟨eb, eo, hpl, e0, e1, e2⟩ := Mile.rd3 ((HS.out.now).2.2.1).re k hkl
        have hixe := fun wx => run_indexS (P := Try.prog) wx 25 43 iE 3 Try.underlying25 hiE hsE a2 n2 d2 k hlt (((HS.out.now).2.2.1).re.some_ (by omega))
        rw [hpl] at hixe
        obtain ⟨y, hy⟩ : ∃ y, (G.E[k]).2.1 = y := ⟨_, rfl⟩
        rw [hy] at e1
        have hsk := HSA.out k
        rw [eAt_eq G k hkl, hy] at hsk
        skip
        have hst2 := (hst.stored k (.int .i64 0)).1
        rw [← List.map_set, List.set_set] at hst2
        have HY := Lib.hid hy
        clear hy hroom hpl
        have hms1 : Mod (fun i => i = rb) wo (wo.setCell ⟨rb, k, none⟩ (.int .i64 (-1))) := Mod.setCell _ _ _ rfl
        obtain ⟨w5, hw5⟩ : ∃ W, wo.setCell ⟨rb, k, none⟩ (.int .i64 (-1)) = W := ⟨_, rfl⟩
        rw [hw5] at hms1 hst hst2
        have hm5 : Mod (fun _ => False) wq4 w5 := HMR.out.old hms1 (fun i hi => by have h1 := HRB.out; have h2 : i = rb := hi; omega)
        skip
        clear e0 e1 e2
        obtain ⟨eb2, eo2, hpl2, _, e1, _⟩ := Mile.rd3 ((HSB.out.at hm5).2.2.1).re k hkl
        have hixe2 := fun wx => run_indexS (P := Try.prog) wx 25 43 iE 3 Try.underlying25 hiE hsE a2 n2 d2 k hlt (((HSB.out.at hm5).2.2.1).re.some_ (by omega))
        rw [hpl2] at hixe2
        clear hixe hpl2
        rw [HY.out] at e1
        have hbx5 := (HSB.out.at hm5).1
        have qx1 := hbx5.cell 1 rfl
        have hroom5 := Room.ofOwn hst k (by omega)
        obtain ⟨v5, q5⟩ := hroom5.cell
        have f5 := hroom5.free
        have HST := Lib.hid hst
        have HST2 := Lib.hid hst2
        have HM5 := Lib.hid hm5
        clear hst hst2 hm5 hbx5 hroom5 hms1
        obtain ⟨bb, hbb⟩ : ∃ b, (y == v) = b := ⟨_, rfl⟩
        rw [hbb] at hsk
        have HSK := Lib.hid hsk
        clear hsk
        cases bb with
        | true =>
          go_wp2_with fail
          go_roundw
          case rel => exact ⟨k + 1, hlt, by go_num, by have h := HST2.out; rw [show inL s n2 (k + 1) = (inL s n2 k).set k 0 by rw [← inL_set s n2 k hlt, HSK.out]; rfl]; exact h, HM5.out.old (Mod.setCell (F := fun i => i = rb) _ _ _ rfl) (fun i hi => by have h1 := HRB.out; have h2 : i = rb := hi; omega)⟩
          case measure => simp [intOf]; omega
        | false =>
          go_wp2_with fail
          go_roundw
          case rel => exact ⟨k + 1, hlt, by go_num, by have h := HST.out; rw [show inL s n2 (k + 1) = (inL s n2 k).set k (-1) by rw [← inL_set s n2 k hlt, HSK.out]; rfl]; exact h, HM5.out⟩
          case measure => simp [intOf]; omega
      case neg =>
        have hkn : k = n2 := by omega
        rw [hkn] at HROW
        have z0 : decide ((k : Int) < (n2 : Int)) = false := by simp; omega
        clear hkn
        go_wp2_with fail
        have hrbo : rb < wo.heap.size := own_lt HROW.out
        have hbf : BF (webTo G hm v cl) (inL s n2 n2) := by have h := BF.begin (webTo G hm v cl) s HSE.out; have hx : (webTo G hm v cl).m = n2 := he.out; rw [hx] at h; exact h
        have HBF := Lib.hid hbf
        clear hbf
        refine (r4arcs_new G wo a1 n1 d1 a2 n2 d2 a3 n3 d3 ((HS.out.now).2.2.1) hes (by omega)).mono ?_
        rintro e w6 ⟨va, rfl, ⟨⟨ar, cr, rfl, har⟩, haw⟩, hm6⟩
        have hro6 := Own.keep HROW.out hm6 (fun _ _ e => e)
        have hm06 : Mod (fun _ => False) wq4 w6 := HMR.out.of2 hm6
        obtain ⟨la, hla⟩ : ∃ k, (arcsR G).length = k := ⟨_, rfl⟩
        have hlab : la ≤ 262144 := by rw [← hla]; have h1 := arcsTo_len G G.E.length; have h2 : (arcsR G).length = (arcsTo G G.E.length).length := rfl; have h3 : G.E.length * G.E.length ≤ 512 * 512 := Nat.mul_le_mul (by rw [he.out]; exact hes) (by rw [he.out]; exact hes); omega
        have har2 : ∀ k, (Value.slice ar (arcsR G).length cr).ownBlock = some k → k ≠ rb := fun k hk h => by have h1 := (haw.lt k hk).1; omega
        rw [hla] at har har2 ⊢
        have HLA := Lib.hid hla
        have HAR := Lib.hid har
        have HAP := Lib.hid har2
        have HRO6 := Lib.hid hro6
        have HM06 := Lib.hid hm06
        clear hla har har2 haw hro6 hm06 hm6 hrbo
        clear HS
        clear qbx_0 qbx_1 qbx_2 lbx
        go_wp2_with fail
        go_loopw [10] (fun ag wr => ∃ (d : List Int) (gb : Bool), ag = .bool gb ∧ BF (webTo G hm v cl) d ∧ (gb = false → Fix (webTo G hm v cl) d) ∧ World.ownsRow wr 0 3 1 (.slice (some ⟨rb, 0, none⟩) n2 n2) n2 ((d).map (Value.int .i64)) ∧ Rd wr 4 (.slice ar la cr) la ((arcsR G).flatMap c4) ∧ Mod (fun _ => False) wq4 wr) (fun ag wr => 2 * pot (rowW rb n2 wr) + (match ag with | .bool true => 1 | _ => 0))
        case atStart => exact ⟨_, true, rfl, HBF.out, (fun h => by cases h), HRO6.out, HAR.out, HM06.out⟩
        case round =>
          clear HRO6 HAR HM06 HBF
          obtain ⟨d, gb, rfl, hbf, hfx, hrow, har, hmr⟩ := hrel
          have hpw := rowW_eq hrow
          have HPW := Lib.hid hpw
          have HBF := Lib.hid hbf
          have HFX := Lib.hid hfx
          have HROW := Lib.hid hrow
          have HAR := Lib.hid har
          have HMR := Lib.hid hmr
          clear hpw hbf hfx hrow har hmr
          cases gb with
          | false =>
            go_wp2_with fail
            go_ret
            have hx : (webTo G hm v cl).m = n2 := he.out
            refine .inl ⟨HV.out, _, rfl, ⟨rb, d, (show Value.slice (some ⟨rb, 0, none⟩) n2 n2 = _ from by rw [hx]), by rw [hx]; exact Own.rebase HROW.out (low_lit (by have h1 := HRB.out; have h2 := ((HSB.out.now).2.2.2).size; omega)), HFX.out (by simp)⟩, ?_⟩
            exact ((HSB.out.now).2.2.2).of2 HMR.out
          | true =>
            go_wp2_with fail
            go_loopw [10, 11] (fun ag i wr => ∃ (j : Nat) (dz : List Int) (gb : Bool), j ≤ la ∧ i = .int .i64 j ∧ ag = .bool gb ∧ BF (webTo G hm v cl) dz ∧ (gb = false → dz = d ∧ (∀ i, i < j → ∀ e b : Nat, (arcsR G)[i]? = some (((e : Int), (b : Int), (eAt G (b : Int)).2.2, (-1 : Int))) → (webTo G hm v cl).rl e b → 0 ≤ dAt dz b → 0 ≤ dAt dz e ∧ dAt dz e ≤ dAt dz b + (webTo G hm v cl).wt e b)) ∧ (gb = true → pot dz < pot d) ∧ World.ownsRow wr 0 3 1 (.slice (some ⟨rb, 0, none⟩) n2 n2) n2 ((dz).map (Value.int .i64)) ∧ Rd wr 4 (.slice ar la cr) la ((arcsR G).flatMap c4) ∧ Mod (fun _ => False) wq4 wr) (fun _ i _ => la - (intOf i).toNat)
            case atStart => exact ⟨0, d, false, by omega, rfl, rfl, HBF.out, fun _ => ⟨rfl, fun i hi => by omega⟩, (fun h => by cases h), HROW.out, HAR.out, HMR.out⟩
            case round =>
              clear HROW HAR HMR HBF
              obtain ⟨j, dz, gb, hj, rfl, rfl, hbf, hq, hp, hrow, har, hmr⟩ := hrel
              skip
              have hpw := rowW_eq hrow
              have HP2 := Lib.hid hpw
              have HBF := Lib.hid hbf
              have HQ := Lib.hid hq
              have HPO := Lib.hid hp
              have HROW := Lib.hid hrow
              have HAR := Lib.hid har
              have HMR := Lib.hid hmr
              clear hpw hbf hq hp hrow har hmr
              by_cases hlt : j < la
              case neg =>
                have hjl : j = la := by omega
                have z0 : decide ((j : Int) < (la : Int)) = false := by simp; omega
                cases gb with
                | false =>
                  go_wp2_with fail
                  go_roundw
                  case rel =>
                    refine ⟨dz, false, rfl, HBF.out, fun _ => HBF.out.done (fun e b hr hb => ?_), HROW.out, HAR.out, HMR.out⟩
                    have hmem := arcs_mem (a := e) (b := b) hr.1
                    obtain ⟨i, hi, hie⟩ := List.getElem_of_mem hmem
                    exact (HQ.out (by simp)).2 i (by rw [hjl, ← HLA.out]; exact hi) e b (by rw [List.getElem?_eq_getElem hi, hie]) hr hb
                  case measure => rw [HP2.out, HPW.out, (HQ.out (by simp)).1]; dsimp only; omega
                | true =>
                  go_wp2_with fail
                  go_roundw
                  case rel => exact ⟨dz, true, rfl, HBF.out, fun h => (by cases h), HROW.out, HAR.out, HMR.out⟩
                  case measure => rw [HP2.out, HPW.out]; have := HPO.out (by simp); dsimp only; omega
              case pos =>
                have z0 : decide ((j : Int) < (la : Int)) = true := by simp; omega
                have hjl : j < (arcsR G).length := by rw [HLA.out]; exact hlt
                obtain ⟨ka1, kb1, hka1, hkal, hkbl, hkt⟩ := arcs_at hjl
                obtain ⟨ab, ao, hpl, e0, e1, e2, e3⟩ := rd4 HAR.out j hjl
                rw [hka1] at e0 e1 e2 e3
                simp only at e0 e1 e2 e3
                have hixa := fun wx => run_indexS (P := Try.prog) wx 69 72 iA 4 Try.underlying69 hiA hsA ar la cr j hlt (HAR.out.some_ (by omega))
                rw [hpl] at hixa
                have hwz := edgeW G hm (kb1 : Int) (by omega)
                obtain ⟨wz, hwzz⟩ : ∃ z, (eAt G (kb1 : Int)).2.2 = z := ⟨_, rfl⟩
                rw [hwzz] at hwz e2
                have HWZ := Lib.hid hwzz
                have HKA := Lib.hid hka1
                have HKT := Lib.hid hkt
                clear hwzz hka1 hkt hpl
                go_upto_region 18 with fail
                have HS := Lib.hid (HSB.out.step HMR.out)
                replace HS := Lib.hid ((Ev.own HROW.out).and HS.out)
                replace HS := Lib.hid ((Ev.rd HAR.out).and HS.out)
                replace HS := Lib.hid ((Ev.mod wr).and HS.out)
                clear e0 e1 e2 e3 hixa
                obtain ⟨b12, hb12⟩ : ∃ b, wr.heap.size = b := ⟨_, rfl⟩
                obtain ⟨wq5, hwq5⟩ : ∃ W, World.alloc wr (.cells #[.int .i64 (ka1 : Int), .int .i64 (kb1 : Int), .int .i64 wz, .int .i64 (-1)] 72) = W := ⟨_, rfl⟩
                have hBb12 : Blk wq5 b12 72 [.int .i64 (ka1 : Int), .int .i64 (kb1 : Int), .int .i64 wz, .int .i64 (-1)] := by rw [← hwq5, ← hb12]; exact Blk.new _ 72 [.int .i64 (ka1 : Int), .int .i64 (kb1 : Int), .int .i64 wz, .int .i64 (-1)]
                have hzb12 : wq5.heap.size = b12 + 1 := by rw [← hwq5, ← hb12]; exact heap_size_alloc _ _
                replace HS := Lib.hid (HS.out.step (w' := wq5) (by rw [← hwq5]; exact Mod.alloc _ _ _))
                replace HS := Lib.hid ((Ev.blk hBb12).and HS.out)
                try rw [hwq5]
                try rw [hb12]
                clear hzb12 hBb12 hb12 hwq5
                have hbbx := (HS.out.now).2.2.2.2.1
                have qbx_0 := hbbx.cell 0 rfl
                have qbx_1 := hbbx.cell 1 rfl
                have qbx_2 := hbbx.cell 2 rfl
                have lbx := hbbx.lt
                clear hbbx
                have hbb12 := (HS.out.now).1
                have qb12_0 := hbb12.cell 0 rfl
                have qb12_1 := hbb12.cell 1 rfl
                have qb12_2 := hbb12.cell 2 rfl
                have qb12_3 := hbb12.cell 3 rfl
                have lb12 := hbb12.lt
                clear hbb12
                obtain ⟨cb, hcb⟩ : ∃ b, clB cl (kb1 : Int) = b := ⟨_, rfl⟩
                have HCB := Lib.hid hcb
                go_wp2_with fail
                refine (r4closed_any _ a n c cl HN.out ((HS.out.now).2.2.2.2.2.1) (kb1 : Int)).mono ?_
                rintro e w' ⟨rfl, rfl⟩
                rw [hcb]
                clear hcb
                cases cb with
                | true =>
                  go_wp2_with fail
                  go_roundw
                  case rel => exact ⟨j + 1, dz, gb, hlt, by go_num, rfl, HBF.out, fun h => ⟨(HQ.out h).1, fun i hi e b hib hr hb => by
                    rcases Nat.lt_or_ge i j with h1 | h1
                    · exact (HQ.out h).2 i h1 e b hib hr hb
                    · have h2 : i = j := by omega
                      subst h2
                      rw [List.getElem?_eq_getElem hjl, HKA.out] at hib
                      simp only [Option.some.injEq, Prod.mk.injEq] at hib
                      have hb1 : kb1 = b := by omega
                      have ha1 : ka1 = e := by omega
                      subst hb1
                      subst ha1
                      have := hr.2; rw [HCB.out] at this; cases this⟩, HPO.out, (HS.out.now).2.2.2.1, ((HS.out.now).2.2.1), (HMR.out.of2 (HS.out.now).2.1)⟩
                  case measure => simp [intOf]; omega
                | false =>
                  have hsl : kb1 < n2 := by rw [← he.out]; exact hkbl
                  have hdl2 : ka1 < n2 := by rw [← he.out]; exact hkal
                  have hixs := fun wx => own_ix iI hiI hsI rb n2 kb1 hsl wx
                  have hixd := fun wx => own_ix iI hiI hsI rb n2 ka1 hdl2 wx
                  have HIXS := Lib.hid hixs
                  have HIXD := Lib.hid hixd
                  have qs := own_at ((HS.out.now).2.2.2.1) kb1 hsl
                  have qd := own_at ((HS.out.now).2.2.2.1) ka1 hdl2
                  have htp := HBF.out.top (by show G.E.length ≤ 512; rw [he.out]; exact hes)
                  have ht1 := htp kb1
                  have ht2 := htp ka1
                  have hl1 := HBF.out.low kb1
                  have hl2 := HBF.out.low ka1
                  clear htp
                  obtain ⟨xs, hxs⟩ : ∃ x, dAt dz kb1 = x := ⟨_, rfl⟩
                  obtain ⟨xd, hxd⟩ : ∃ x, dAt dz ka1 = x := ⟨_, rfl⟩
                  rw [hxs] at qs ht1 hl1
                  rw [hxd] at qd ht2 hl2
                  have HXS := Lib.hid hxs
                  have HXD := Lib.hid hxd
                  clear hxs hxd
                  have HQS : Hid (∀ W, World.ownsRow W 0 3 1 (.slice (some ⟨rb, 0, none⟩) n2 n2) n2 ((dz).map (Value.int .i64)) → W.cell? ⟨rb, kb1, none⟩ = some (.int .i64 xs)) := Lib.hid fun W hW => by rw [← HXS.out]; exact own_at hW kb1 hsl
                  have HQD : Hid (∀ W, World.ownsRow W 0 3 1 (.slice (some ⟨rb, 0, none⟩) n2 n2) n2 ((dz).map (Value.int .i64)) → W.cell? ⟨rb, ka1, none⟩ = some (.int .i64 xd)) := Lib.hid fun W hW => by rw [← HXD.out]; exact own_at hW ka1 hdl2
                  by_cases hx0 : xs < 0
                  case pos =>
                    have z1 : decide (xs < 0) = true := by simpa using hx0
                    have HX0 := Lib.hid hx0
                    clear hx0
                    go_wp2_with fail
                    go_roundw
                    case rel => exact ⟨j + 1, dz, gb, hlt, by go_num, rfl, HBF.out, fun h => ⟨(HQ.out h).1, fun i hi e b hib hr hb => by
                      rcases Nat.lt_or_ge i j with h1 | h1
                      · exact (HQ.out h).2 i h1 e b hib hr hb
                      · have h2 : i = j := by omega
                        subst h2
                        rw [List.getElem?_eq_getElem hjl, HKA.out] at hib
                        simp only [Option.some.injEq, Prod.mk.injEq] at hib
                        have hb1 : kb1 = b := by omega
                        have ha1 : ka1 = e := by omega
                        subst hb1
                        subst ha1
                        rw [HXS.out] at hb; have := HX0.out; omega⟩, HPO.out, (HS.out.now).2.2.2.1, ((HS.out.now).2.2.1), (HMR.out.of2 (HS.out.now).2.1)⟩
                    case measure => simp [intOf]; omega
                  case neg =>
                    have z1 : decide (xs < 0) = false := by simpa using hx0
                    have hx1 : 0 ≤ xs := by omega
                    go_upto_region 19 with fail
                    clear qs qd hixs hixd
                    clear qbx_0 qbx_1 qbx_2 lbx qb12_0 qb12_1 qb12_2 qb12_3 lb12
                    have HSd := Lib.hid HS.out.drew
                    refine wp_region_inv3 (act := ?actrto_r19_0) (Mod (fun _ => False)) (fun i => (rto_r19_0_F n2 rb kb1 wz b12 xs).getD i (fun _ _ => True)) (fun i => rto_r19_0_D.getD i []) (by kernel_rfl) (by kernel_rfl) (by kernel_rfl) (by kernel_rfl) (fun _ => Mod.refl _ _)
                      (fun _ _ _ h k => h.trans k (fun _ _ e => e) (fun _ _ e => e)) ?hactrto_r19_0 (stable_list ?_) ?_ ?_
                    case hactrto_r19_0 => intro vs; simp only [putAll, Nat.zero_add, Nat.reduceAdd, Act.put, List.setIfInBounds_toArray, List.set_cons_succ, List.set_cons_zero]; exact rfl
                    · unfold rto_r19_0_F
                      exact stable_cons (stable_val _) <| stable_cons (stable_val _) <| stable_cons (stable_val _) <| stable_cons (stable_val _) <| stable_cons (stable_val _) <| stable_cons (stable_val _) <| stable_cons (stable_val _) <| stable_cons (stable_val _) <| stable_cons (stable_val _) <| stable_nil
                    · refine opsOkA_cons ?_ ?_
                      · intro K vs W hR hD hK
                        clear hD
                        try dsimp only at hK ⊢
                        simp only [Act.put, List.setIfInBounds_toArray, List.set_cons_succ, List.set_cons_zero] at hK
                        go_wp2
                        exact hK _ _ rfl (Mod.refl _ _)
                      refine opsOkA_cons ?_ ?_
                      · intro K vs W hR hD hK
                        clear hD
                        try dsimp only at hK ⊢
                        simp only [Act.put, List.setIfInBounds_toArray, List.set_cons_succ, List.set_cons_zero] at hK
                        go_wp2
                        exact hK _ _ rfl (Mod.refl _ _)
                      refine opsOkA_cons ?_ ?_
                      · intro K vs W hR hD hK
                        have dq1 : vs 1 = .pointer (some ⟨b12, 1, none⟩) := hD 1 (by decide)
                        clear hD
                        try dsimp only at hK ⊢
                        simp only [Act.put, List.setIfInBounds_toArray, List.set_cons_succ, List.set_cons_zero] at hK
                        generalize vs 1 = vq1 at hK dq1 ⊢
                        subst vq1
                        have q0 := ((HSd.out.at (hR)).1).cell 1 rfl
                        go_wp2
                        exact hK _ _ rfl (Mod.refl _ _)
                      refine opsOkA_cons ?_ ?_
                      · intro K vs W hR hD hK
                        have dq0 : vs 0 = .slice (some ⟨rb, 0, none⟩) n2 n2 := hD 0 (by decide)
                        have dq2 : vs 2 = .int .i64 (kb1 : Int) := hD 2 (by decide)
                        clear hD
                        try dsimp only at hK ⊢
                        simp only [Act.put, List.setIfInBounds_toArray, List.set_cons_succ, List.set_cons_zero] at hK
                        generalize vs 0 = vq0 at hK dq0 ⊢
                        subst vq0
                        generalize vs 2 = vq2 at hK dq2 ⊢
                        subst vq2
                        have hix := HIXS.out
                        go_wp2_with fail
                        exact hK _ _ rfl (Mod.refl _ _)
                      refine opsOkA_cons ?_ ?_
                      · intro K vs W hR hD hK
                        have dq3 : vs 3 = .pointer (some ⟨rb, kb1, none⟩) := hD 3 (by decide)
                        clear hD
                        try dsimp only at hK ⊢
                        simp only [Act.put, List.setIfInBounds_toArray, List.set_cons_succ, List.set_cons_zero] at hK
                        generalize vs 3 = vq3 at hK dq3 ⊢
                        subst vq3
                        have q0 := HQS.out _ ((HSd.out.at (hR)).2.2.2.1)
                        go_wp2
                        exact hK _ _ rfl (Mod.refl _ _)
                      refine opsOkA_cons ?_ ?_
                      · intro K vs W hR hD hK
                        clear hD
                        try dsimp only at hK ⊢
                        simp only [Act.put, List.setIfInBounds_toArray, List.set_cons_succ, List.set_cons_zero] at hK
                        go_wp2
                        exact hK _ _ rfl (Mod.refl _ _)
                      refine opsOkA_cons ?_ ?_
                      · intro K vs W hR hD hK
                        have dq5 : vs 5 = .pointer (some ⟨b12, 2, none⟩) := hD 5 (by decide)
                        clear hD
                        try dsimp only at hK ⊢
                        simp only [Act.put, List.setIfInBounds_toArray, List.set_cons_succ, List.set_cons_zero] at hK
                        generalize vs 5 = vq5 at hK dq5 ⊢
                        subst vq5
                        have q0 := ((HSd.out.at (hR)).1).cell 2 rfl
                        go_wp2
                        exact hK _ _ rfl (Mod.refl _ _)
                      refine opsOkA_cons ?_ ?_
                      · intro K vs W hR hD hK
                        have dq4 : vs 4 = .int .i64 xs := hD 4 (by decide)
                        have dq6 : vs 6 = .int .i64 wz := hD 6 (by decide)
                        clear hD
                        try dsimp only at hK ⊢
                        simp only [Act.put, List.setIfInBounds_toArray, List.set_cons_succ, List.set_cons_zero] at hK
                        generalize vs 4 = vq4 at hK dq4 ⊢
                        subst vq4
                        generalize vs 6 = vq6 at hK dq6 ⊢
                        subst vq6
                        go_wp2
                        exact hK _ _ rfl (Mod.refl _ _)
                      refine opsOkA_cons ?_ ?_
                      · intro K vs W hR hD hK
                        have dq7 : vs 7 = .int .i64 (xs + wz) := hD 7 (by decide)
                        clear hD
                        try dsimp only at hK ⊢
                        simp only [Act.put, List.setIfInBounds_toArray, List.set_cons_succ, List.set_cons_zero] at hK
                        generalize vs 7 = vq7 at hK dq7 ⊢
                        subst vq7
                        go_wp2
                        exact hK _ _ rfl (Mod.refl _ _)
                      exact opsOkA_nil
                    · intro vs wq6 hR hF
                      have dq8 : vs 8 = .int .i64 (xs + wz) := hF 8 (by decide)
                      clear hF
                      try dsimp only
                      generalize vs 8 = vq8 at dq8 ⊢
                      subst dq8
                      replace HS := Lib.hid (HSd.out.step hR)
                      clear HSd hR
                      have hbbx := (HS.out.now).2.2.2.2.1
                      have qbx_0 := hbbx.cell 0 rfl
                      have qbx_1 := hbbx.cell 1 rfl
                      have qbx_2 := hbbx.cell 2 rfl
                      have lbx := hbbx.lt
                      clear hbbx
                      have hbb12 := (HS.out.now).1
                      have qb12_0 := hbb12.cell 0 rfl
                      have qb12_1 := hbb12.cell 1 rfl
                      have qb12_2 := hbb12.cell 2 rfl
                      have qb12_3 := hbb12.cell 3 rfl
                      have lb12 := hbb12.lt
                      clear hbb12
                      have hixd := HIXD.out
                      have hixs := HIXS.out
                      have qd := HQD.out _ ((HS.out.now).2.2.2.1)
                      have qs := HQS.out _ ((HS.out.now).2.2.2.1)
                      by_cases hc : xd < 0 ∨ xs + wz < xd
                      case neg =>
                        have z2 : decide (xd < 0) = false := by simp; omega
                        have z3 : decide (xs + wz < xd) = false := by simp; omega
                        have hc1 : 0 ≤ xd ∧ xd ≤ xs + wz := by omega
                        have HC := Lib.hid hc1
                        clear hc hc1
                        go_wp2_with fail
                        go_roundw
                        case rel => exact ⟨j + 1, dz, gb, hlt, by go_num, rfl, HBF.out, fun h => ⟨(HQ.out h).1, fun i hi e b hib hr hb => by
                          rcases Nat.lt_or_ge i j with h1 | h1
                          · exact (HQ.out h).2 i h1 e b hib hr hb
                          · have h2 : i = j := by omega
                            subst h2
                            rw [List.getElem?_eq_getElem hjl, HKA.out] at hib
                            simp only [Option.some.injEq, Prod.mk.injEq] at hib
                            have hb1 : kb1 = b := by omega
                            have ha1 : ka1 = e := by omega
                            subst hb1
                            subst ha1
                            show 0 ≤ dAt dz ka1 ∧ dAt dz ka1 ≤ dAt dz kb1 + (eAt G (kb1 : Int)).2.2; rw [HXS.out, HXD.out, HWZ.out]; exact HC.out⟩, HPO.out, (HS.out.now).2.2.2.1, ((HS.out.now).2.2.1), (HMR.out.of2 (HS.out.now).2.1)⟩
                        case measure => simp [intOf]; omega
                      case pos =>
                        have hwt : (webTo G hm v cl).wt ka1 kb1 = wz := HWZ.out
                        have hrl : (webTo G hm v cl).rl ka1 kb1 := ⟨HKT.out, HCB.out⟩
                        have hb9 := HBF.out.relax (by show G.E.length ≤ 512; rw [he.out]; exact hes) hrl (by rw [HXS.out]; exact hx1) (by rw [HXS.out, HXD.out, hwt]; exact hc)
                        rw [HXS.out, hwt] at hb9
                        have hroom := Room.ofOwn ((HS.out.now).2.2.2.1) ka1 (by omega)
                        have q1 := hroom.free
                        have hst := (((HS.out.now).2.2.2.1).stored ka1 (.int .i64 (xs + wz))).1
                        rw [← List.map_set] at hst
                        have hms : Mod (fun i => i = rb) wq6 (wq6.setCell ⟨rb, ka1, none⟩ (.int .i64 (xs + wz))) := Mod.setCell _ _ _ rfl
                        have ha9 := ((HS.out.now).2.2.1).keep hms (fun k hk e => HAP.out k hk e)
                        have hm9 := (HMR.out.of2 (HS.out.now).2.1).old hms (fun i hi => by have h1 := HRB.out; have h2 : i = rb := hi; omega)
                        have HB9 := Lib.hid hb9
                        have HR9 := Lib.hid hst
                        have HA9 := Lib.hid ha9
                        have HM9 := Lib.hid hm9
                        clear hb9 hst ha9 hm9 hms hroom hwt hrl
                        have hpo : pot (dz.set ka1 (xs + wz)) < pot d := by
                          have h1 := HB9.out.2
                          cases gb with
                          | false => rw [← (HQ.out (by simp)).1]; exact h1
                          | true => exact Nat.lt_trans h1 (HPO.out (by simp))
                        have HP9 := Lib.hid hpo
                        clear hpo
                        by_cases hxn : xd < 0
                        case pos =>
                          have z2 : decide (xd < 0) = true := by simpa using hxn
                          clear hc hxn
                          go_wp2_with fail
                          go_roundw
                          case rel => exact ⟨j + 1, dz.set ka1 (xs + wz), true, hlt, by go_num, rfl, HB9.out.1, fun h => (by cases h), fun _ => HP9.out, HR9.out, HA9.out, HM9.out⟩
                          case measure => simp [intOf]; omega
                        case neg =>
                          have z2 : decide (xd < 0) = false := by simpa using hxn
                          have z3 : decide (xs + wz < xd) = true := by simp; omega
                          clear hc hxn
                          go_wp2_with fail
                          go_roundw
                          case rel => exact ⟨j + 1, dz.set ka1 (xs + wz), true, hlt, by go_num, rfl, HB9.out.1, fun h => (by cases h), fun _ => HP9.out, HR9.out, HA9.out, HM9.out⟩
                          case measure => simp [intOf]; omega
end Go.Proofs.Ytbjdjafkpldbnaa
