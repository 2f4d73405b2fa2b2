/- The reference's From (how far it is) by contract. -/
import Derived.Test.YtbjdjafkpldbnaaRDistT
import Derived.Test.YtbjdjafkpldbnaaKDist
import Derived.Test.YtbjdjafkpldbnaaRArcs
import Derived.Test.YtbjdjafkpldbnaaR4n
import Derived.Deep.DeepCutAuto
import Derived.Deep.CutBlock
namespace Go.Proofs.Ytbjdjafkpldbnaa
open Go.RowKit Mile
set_option maxRecDepth 100000
/-- What From tells. -/
def rdfromP (G : GD) (hm : May G) (v : Int) (cl : List Bool) (w : World) (e : Ending) (w' : World) : Prop :=
  ((0 ≤ v ∧ v < (G.E.length : Int)) ∧ ∃ x, e = .returned x ∧ DRow (webFrom G hm v cl) w.heap.size x w' ∧ Mod (fun _ => False) w w') ∨ (¬ (0 ≤ v ∧ v < (G.E.length : Int)) ∧ e = .returned (.slice none 0 0) ∧ Mod (fun _ => False) w w')
/-- What each operation of the statement leaves. -/
def rfrom_r18_0_F (n2 : Nat) (rb : Nat) (ka1 : Nat) (wz : Int) (b12 : Nat) (xs : Int) : List (Value → World → Prop) :=
  [IsV (.slice (some ⟨rb, 0, none⟩) n2 n2),
   IsV (.pointer (some ⟨b12, 0, none⟩)),
   IsV (.int .i64 (ka1 : Int)),
   IsV (.pointer (some ⟨rb, ka1, none⟩)),
   IsV (.int .i64 xs),
   IsV (.pointer (some ⟨b12, 2, none⟩)),
   IsV (.int .i64 wz),
   IsV (.int .i64 (xs + wz)),
   IsV (.int .i64 (xs + wz))]
def rfrom_r18_0_D : List (List Nat) := [[], [], [1], [0, 2], [3], [], [5], [4, 6], [7]]

set_option maxHeartbeats 16000000 in
theorem r4from_any (G : GD) (hm : May G) (w : World) (a1 : Option Addr) (n1 d1 : Nat) (a2 : Option Addr) (n2 d2 : Nat) (a3 : Option Addr) (n3 d3 : Nat) (h : GV w a1 n1 d1 a2 n2 d2 a3 n3 d3 G) (v : Int) (a : Option Addr) (n c : Nat) (cl : List Bool) (hn : cl.length = n) (hr : Rd w 1 (.slice a n c) n (cl.map Value.bool)) :
    Calls Try.prog 15 #[.agg #[.slice a1 n1 d1, .slice a2 n2 d2, .slice a3 n3 d3], .int .i64 v, .slice a n c] w (rdfromP G hm v cl w) := by
  have HS : Hid (Ev (Mod (fun _ => False) w) w) := Lib.hid (Ev.mod w)
  replace HS := Lib.hid ((Ev.gv h).and HS.out)
  replace HS := Lib.hid ((Ev.rd hr).and HS.out)
  have he := Lib.hid h.e
  have hnn := Lib.hid h.n
  have hb3 := Lib.hid h.b
  have HN := Lib.hid hn
  clear h hr hn
  obtain ⟨iI, hiI, hzI, hsI, hbI⟩ := info_parts GR.infoI
  obtain ⟨iE, hiE, hzE, hsE, hbE⟩ := info_parts GR.infoE
  obtain ⟨iA, hiA, hzA, hsA, hbA⟩ := info_parts infoA
  have hes : n2 ≤ 512 := by rw [← he.out]; exact hm.1.2.1
  have hns : n1 ≤ 256 := by rw [← hnn.out]; exact hm.1.1.2
  have hbs : n3 ≤ 1024 := by rw [← hb3.out]; exact hm.1.2.2
  by_cases hv : 0 ≤ v ∧ v < (G.E.length : Int)
  case neg =>
    go_enter Try.func15, Try.ntmps15
    go_upto_region 1 with fail
    obtain ⟨bx, hbx⟩ : ∃ b, w.heap.size = b := ⟨_, rfl⟩
    obtain ⟨wq1, hwq1⟩ : ∃ W, World.alloc w (.cells #[.slice a1 n1 d1, .slice a2 n2 d2, .slice a3 n3 d3] 28) = W := ⟨_, rfl⟩
    have hBbx : Blk wq1 bx 28 [.slice a1 n1 d1, .slice a2 n2 d2, .slice a3 n3 d3] := by rw [← hwq1, ← hbx]; exact Blk.new _ 28 [.slice a1 n1 d1, .slice a2 n2 d2, .slice a3 n3 d3]
    have hzbx : wq1.heap.size = bx + 1 := by rw [← hwq1, ← hbx]; exact heap_size_alloc _ _
    replace HS := Lib.hid (HS.out.step (w' := wq1) (by rw [← hwq1]; exact Mod.alloc _ _ _))
    replace HS := Lib.hid ((Ev.blk hBbx).and HS.out)
    try rw [hwq1]
    try rw [hbx]
    clear hzbx hBbx hbx hwq1
    have hbbx := (HS.out.now).1
    have qbx_0 := hbbx.cell 0 rfl
    have qbx_1 := hbbx.cell 1 rfl
    have qbx_2 := hbbx.cell 2 rfl
    have lbx := hbbx.lt
    clear hbbx
    go_wp2_with fail
    refine (r4edge_any G _ a1 n1 d1 a2 n2 d2 a3 n3 d3 ((HS.out.now).2.2.1) (by omega) v).mono ?_
    rintro e wq2 ⟨rfl, hmm⟩
    replace HS := Lib.hid (HS.out.step hmm)
    clear hmm
    clear qbx_0 qbx_1 qbx_2 lbx
    have hbbx := (HS.out.now).1
    have qbx_0 := hbbx.cell 0 rfl
    have qbx_1 := hbbx.cell 1 rfl
    have qbx_2 := hbbx.cell 2 rfl
    have lbx := hbbx.lt
    clear hbbx
    rw [decide_eq_false hv]
    go_wp2_with fail
    go_ret
    exact .inr ⟨hv, rfl, (HS.out.now).2.2.2⟩
  case pos =>
    go_enter Try.func15, Try.ntmps15
    go_upto_region 1 with fail
    obtain ⟨bx, hbx⟩ : ∃ b, w.heap.size = b := ⟨_, rfl⟩
    obtain ⟨wq3, hwq3⟩ : ∃ W, World.alloc w (.cells #[.slice a1 n1 d1, .slice a2 n2 d2, .slice a3 n3 d3] 28) = W := ⟨_, rfl⟩
    have hBbx : Blk wq3 bx 28 [.slice a1 n1 d1, .slice a2 n2 d2, .slice a3 n3 d3] := by rw [← hwq3, ← hbx]; exact Blk.new _ 28 [.slice a1 n1 d1, .slice a2 n2 d2, .slice a3 n3 d3]
    have hzbx : wq3.heap.size = bx + 1 := by rw [← hwq3, ← hbx]; exact heap_size_alloc _ _
    replace HS := Lib.hid (HS.out.step (w' := wq3) (by rw [← hwq3]; exact Mod.alloc _ _ _))
    replace HS := Lib.hid ((Ev.blk hBbx).and HS.out)
    try rw [hwq3]
    try rw [hbx]
    clear hzbx hBbx hbx hwq3
    have hbbx := (HS.out.now).1
    have qbx_0 := hbbx.cell 0 rfl
    have qbx_1 := hbbx.cell 1 rfl
    have qbx_2 := hbbx.cell 2 rfl
    have lbx := hbbx.lt
    clear hbbx
    go_wp2_with fail
    refine (r4edge_any G _ a1 n1 d1 a2 n2 d2 a3 n3 d3 ((HS.out.now).2.2.1) (by omega) v).mono ?_
    rintro e wq4 ⟨rfl, hmm⟩
    replace HS := Lib.hid (HS.out.step hmm)
    clear hmm
    clear qbx_0 qbx_1 qbx_2 lbx
    have hbbx := (HS.out.now).1
    have qbx_0 := hbbx.cell 0 rfl
    have qbx_1 := hbbx.cell 1 rfl
    have qbx_2 := hbbx.cell 2 rfl
    have lbx := hbbx.lt
    clear hbbx
    rw [decide_eq_true hv]
    obtain ⟨ka, rfl⟩ := Int.eq_ofNat_of_zero_le hv.1
    have hka : ka < n2 := by have := he.out; omega
    clear hv
    have hmk := fun wx => run_makeS (P := Try.prog) 22 3 iI (.int .i64 0) Try.underlying22 hiI hzI rfl hsI n2 (by rw [hbI]; omega) (by omega) wx
    have ho0 := own_zrow wq4 3 (.int .i64 0) n2 wq4.heap.size rfl (by omega)
    obtain ⟨rb, hrb⟩ : ∃ b, wq4.heap.size = b := ⟨_, rfl⟩
    obtain ⟨w1, hw1⟩ : ∃ W, wq4.alloc (.cells (zrow (.int .i64 0) n2) 3) = W := ⟨_, rfl⟩
    have hm1 : Mod (fun _ => False) wq4 w1 := by rw [← hw1]; exact Mod.alloc _ _ _
    have hmk2 := hmk wq4
    rw [hw1, hrb] at hmk2 ho0
    have hrb1 : rb < w1.heap.size := by rw [← hw1, ← hrb]; simp
    clear hmk
    go_wp2_with fail
    clear hmk2 hw1
    have HRB := Lib.hid hrb
    clear hrb
    have HSB := HS
    clear qbx_0 qbx_1 qbx_2 lbx
    have hd0 : World.ownsRow w1 0 3 1 (.slice (some ⟨rb, 0, none⟩) n2 n2) n2 ((fillL n2 0).map (Value.int .i64)) := by rw [fillL_zero, List.map_replicate]; exact ho0
    have HD0 := Lib.hid hd0
    have HM1 := Lib.hid hm1
    clear hd0 ho0 hm1
    go_loopw [8] (fun i wr => ∃ k : Nat, k ≤ n2 ∧ i = .int .i64 k ∧ World.ownsRow wr 0 3 1 (.slice (some ⟨rb, 0, none⟩) n2 n2) n2 ((fillL n2 k).map (Value.int .i64)) ∧ Mod (fun _ => False) wq4 wr) (fun i _ => n2 - (intOf i).toNat)
    case atStart => exact ⟨0, by omega, rfl, HD0.out, HM1.out⟩
    case round =>
      obtain ⟨k, hk, rfl, hrow, hmr⟩ := hrel
      obtain ⟨wo, hwo⟩ : ∃ x : World, x = wr := ⟨_, rfl⟩
      subst hwo
      clear HS
      have HS := Lib.hid (HSB.out.step hmr)
      have hbbx := (HS.out.now).1
      have qbx_0 := hbbx.cell 0 rfl
      have qbx_1 := hbbx.cell 1 rfl
      have qbx_2 := hbbx.cell 2 rfl
      have lbx := hbbx.lt
      clear hbbx
      have HROW := Lib.hid hrow
      have HMR := Lib.hid hmr
      clear hrow hmr
      by_cases hlt : k < n2
      case pos =>
        have z0 : decide ((k : Int) < (n2 : Int)) = true := by simp; omega
        have hixk := fun wx => own_ix iI hiI hsI rb n2 k hlt wx
        have hroom := Room.ofOwn HROW.out k (by omega)
        obtain ⟨v0, q0⟩ := hroom.cell
        have q1 := hroom.free
        have hst := (HROW.out.stored k (.int .i64 (-1))).1
        rw [← List.map_set] at hst
        rw [fillL_set n2 k hlt] at hst
        have HST := Lib.hid hst
        clear hst hroom
        go_wp2_with fail
        go_roundw
        case rel => exact ⟨k + 1, hlt, by go_num, HST.out, HMR.out.old (Mod.setCell (F := fun i => i = rb) _ _ _ rfl) (fun i hi => by have h1 := HRB.out; have h2 : i = rb := hi; omega)⟩
        case measure => simp [intOf]; omega
      case neg =>
        have hkn : k = n2 := by omega
        rw [hkn] at HROW
        have z0 : decide ((k : Int) < (n2 : Int)) = false := by simp; omega
        clear hkn
        have hixka := fun wx => own_ix iI hiI hsI rb n2 ka hka wx
        have hroom := Room.ofOwn HROW.out ka (by omega)
        obtain ⟨v0, q0⟩ := hroom.cell
        have q1 := hroom.free
        have hst := (HROW.out.stored ka (.int .i64 0)).1
        rw [← List.map_set, fillL_all] at hst
        obtain ⟨w5, hw5⟩ : ∃ W, wo.setCell ⟨rb, ka, none⟩ (.int .i64 0) = W := ⟨_, rfl⟩
        have hms1 : Mod (fun i => i = rb) wo w5 := by rw [← hw5]; exact Mod.setCell _ _ _ rfl
        rw [hw5] at hst
        have hm5 : Mod (fun _ => False) wq4 w5 := HMR.out.old hms1 (fun i hi => by have h1 := HRB.out; have h2 : i = rb := hi; omega)
        have hbx5 := (HSB.out.at hm5).1
        have qx0 := hbx5.cell 0 rfl
        have qx1 := hbx5.cell 1 rfl
        have qx2 := hbx5.cell 2 rfl
        have hrb5 : rb < w5.heap.size := Nat.lt_of_lt_of_le hroom.lt hms1.size
        have HST := Lib.hid hst
        have HM5 := Lib.hid hm5
        clear hst hm5 hbx5 hms1 hroom HROW HMR
        go_wp2_with fail
        clear qx0 qx1 qx2 hw5 q0 q1 hixka
        clear qbx_0 qbx_1 qbx_2 lbx
        clear HS
        have HS := Lib.hid (HSB.out.step HM5.out)
        have hbbx := (HS.out.now).1
        have qbx_0 := hbbx.cell 0 rfl
        have qbx_1 := hbbx.cell 1 rfl
        have qbx_2 := hbbx.cell 2 rfl
        have lbx := hbbx.lt
        clear hbbx
        have hbf : BF (webFrom G hm (ka : Int) cl) ((List.replicate n2 (-1)).set ka 0) := by
          have h := BF.begin (webFrom G hm (ka : Int) cl) (fun e => decide (e = ka)) (fun e => by show (e : Int) = (ka : Int) ↔ _; simp; omega)
          have hx : (webFrom G hm (ka : Int) cl).m = n2 := he.out
          rw [hx] at h
          have e2 : inL (fun e => decide (e = ka)) n2 n2 = (List.replicate n2 (-1)).set ka 0 := by
            refine List.ext_getElem (by rw [inL_len _ _ _ (Nat.le_refl _)]; simp) fun i h1 h2 => ?_
            rw [inL_len _ _ _ (Nat.le_refl _)] at h1
            have := inL_at (fun e => decide (e = ka)) n2 i h1
            rw [dAt_eq _ _ (by rw [inL_len _ _ _ (Nat.le_refl _)]; exact h1)] at this
            rw [this, List.getElem_set]
            by_cases hc : i = ka
            · subst hc; simp
            · simp [hc, Ne.symm hc]
          rw [e2] at h; exact h
        have HBF := Lib.hid hbf
        clear hbf
        refine (r4arcs_new G w5 a1 n1 d1 a2 n2 d2 a3 n3 d3 ((HS.out.now).2.2.1) hes (by omega)).mono ?_
        rintro e w6 ⟨va, rfl, ⟨⟨ar, cr, rfl, har⟩, haw⟩, hm6⟩
        have hro6 := Own.keep HST.out hm6 (fun _ _ e => e)
        have hm06 : Mod (fun _ => False) wq4 w6 := HM5.out.of2 hm6
        obtain ⟨la, hla⟩ : ∃ k, (arcsR G).length = k := ⟨_, rfl⟩
        have hlab : la ≤ 262144 := by rw [← hla]; have h1 := arcsTo_len G G.E.length; have h2 : (arcsR G).length = (arcsTo G G.E.length).length := rfl; have h3 : G.E.length * G.E.length ≤ 512 * 512 := Nat.mul_le_mul (by rw [he.out]; exact hes) (by rw [he.out]; exact hes); omega
        have har2 : ∀ k, (Value.slice ar (arcsR G).length cr).ownBlock = some k → k ≠ rb := fun k hk h => by have h1 := (haw.lt k hk).1; omega
        rw [hla] at har har2 ⊢
        have HLA := Lib.hid hla
        have HAR := Lib.hid har
        have HAP := Lib.hid har2
        have HRO6 := Lib.hid hro6
        have HM06 := Lib.hid hm06
        clear hla har har2 haw hro6 hm06 hm6 hrb5
        clear HS
        clear qbx_0 qbx_1 qbx_2 lbx
        go_wp2_with fail
        go_loopw [10] (fun ag wr => ∃ (d : List Int) (gb : Bool), ag = .bool gb ∧ BF (webFrom G hm (ka : Int) cl) d ∧ (gb = false → Fix (webFrom G hm (ka : Int) cl) d) ∧ World.ownsRow wr 0 3 1 (.slice (some ⟨rb, 0, none⟩) n2 n2) n2 ((d).map (Value.int .i64)) ∧ Rd wr 4 (.slice ar la cr) la ((arcsR G).flatMap c4) ∧ Mod (fun _ => False) wq4 wr) (fun ag wr => 2 * pot (rowW rb n2 wr) + (match ag with | .bool true => 1 | _ => 0))
        case atStart => exact ⟨_, true, rfl, HBF.out, (fun h => by cases h), HRO6.out, HAR.out, HM06.out⟩
        case round =>
          clear HRO6 HAR HM06 HBF
          obtain ⟨d, gb, rfl, hbf, hfx, hrow, har, hmr⟩ := hrel
          have hpw := rowW_eq hrow
          have HPW := Lib.hid hpw
          have HBF := Lib.hid hbf
          have HFX := Lib.hid hfx
          have HROW := Lib.hid hrow
          have HAR := Lib.hid har
          have HMR := Lib.hid hmr
          clear hpw hbf hfx hrow har hmr
          cases gb with
          | false =>
            go_wp2_with fail
            go_ret
            have hx : (webFrom G hm (ka : Int) cl).m = n2 := he.out
            refine .inl ⟨by have := he.out; omega, _, rfl, ⟨rb, d, (show Value.slice (some ⟨rb, 0, none⟩) n2 n2 = _ from by rw [hx]), by rw [hx]; exact Own.rebase HROW.out (low_lit (by have h1 := HRB.out; have h2 := ((HSB.out.now).2.2.2).size; omega)), HFX.out (by simp)⟩, ?_⟩
            exact ((HSB.out.now).2.2.2).of2 HMR.out
          | true =>
            go_wp2_with fail
            go_loopw [10, 11] (fun ag i wr => ∃ (j : Nat) (dz : List Int) (gb : Bool), j ≤ la ∧ i = .int .i64 j ∧ ag = .bool gb ∧ BF (webFrom G hm (ka : Int) cl) dz ∧ (gb = false → dz = d ∧ (∀ i, i < j → ∀ e b : Nat, (arcsR G)[i]? = some (((b : Int), (e : Int), (eAt G (e : Int)).2.2, (-1 : Int))) → (webFrom G hm (ka : Int) cl).rl e b → 0 ≤ dAt dz b → 0 ≤ dAt dz e ∧ dAt dz e ≤ dAt dz b + (webFrom G hm (ka : Int) cl).wt e b)) ∧ (gb = true → pot dz < pot d) ∧ World.ownsRow wr 0 3 1 (.slice (some ⟨rb, 0, none⟩) n2 n2) n2 ((dz).map (Value.int .i64)) ∧ Rd wr 4 (.slice ar la cr) la ((arcsR G).flatMap c4) ∧ Mod (fun _ => False) wq4 wr) (fun _ i _ => la - (intOf i).toNat)
            case atStart => exact ⟨0, d, false, by omega, rfl, rfl, HBF.out, fun _ => ⟨rfl, fun i hi => by omega⟩, (fun h => by cases h), HROW.out, HAR.out, HMR.out⟩
            case round =>
              clear HROW HAR HMR HBF
              obtain ⟨j, dz, gb, hj, rfl, rfl, hbf, hq, hp, hrow, har, hmr⟩ := hrel
              skip
              have hpw := rowW_eq hrow
              have HP2 := Lib.hid hpw
              have HBF := Lib.hid hbf
              have HQ := Lib.hid hq
              have HPO := Lib.hid hp
              have HROW := Lib.hid hrow
              have HAR := Lib.hid har
              have HMR := Lib.hid hmr
              clear hpw hbf hq hp hrow har hmr
              by_cases hlt : j < la
              case neg =>
                have hjl : j = la := by omega
                have z0 : decide ((j : Int) < (la : Int)) = false := by simp; omega
                cases gb with
                | false =>
                  go_wp2_with fail
                  go_roundw
                  case rel =>
                    refine ⟨dz, false, rfl, HBF.out, fun _ => HBF.out.done (fun e b hr hb => ?_), HROW.out, HAR.out, HMR.out⟩
                    have hmem := arcs_mem (a := b) (b := e) hr.1
                    obtain ⟨i, hi, hie⟩ := List.getElem_of_mem hmem
                    exact (HQ.out (by simp)).2 i (by rw [hjl, ← HLA.out]; exact hi) e b (by rw [List.getElem?_eq_getElem hi, hie]) hr hb
                  case measure => rw [HP2.out, HPW.out, (HQ.out (by simp)).1]; dsimp only; omega
                | true =>
                  go_wp2_with fail
                  go_roundw
                  case rel => exact ⟨dz, true, rfl, HBF.out, fun h => (by cases h), HROW.out, HAR.out, HMR.out⟩
                  case measure => rw [HP2.out, HPW.out]; have := HPO.out (by simp); dsimp only; omega
              case pos =>
                have z0 : decide ((j : Int) < (la : Int)) = true := by simp; omega
                have hjl : j < (arcsR G).length := by rw [HLA.out]; exact hlt
                obtain ⟨ka1, kb1, hka1, hkal, hkbl, hkt⟩ := arcs_at hjl
                obtain ⟨ab, ao, hpl, e0, e1, e2, e3⟩ := rd4 HAR.out j hjl
                rw [hka1] at e0 e1 e2 e3
                simp only at e0 e1 e2 e3
                have hixa := fun wx => run_indexS (P := Try.prog) wx 69 72 iA 4 Try.underlying69 hiA hsA ar la cr j hlt (HAR.out.some_ (by omega))
                rw [hpl] at hixa
                have hwz := edgeW G hm (kb1 : Int) (by omega)
                obtain ⟨wz, hwzz⟩ : ∃ z, (eAt G (kb1 : Int)).2.2 = z := ⟨_, rfl⟩
                rw [hwzz] at hwz e2
                have HWZ := Lib.hid hwzz
                have HKA := Lib.hid hka1
                have HKT := Lib.hid hkt
                clear hwzz hka1 hkt hpl
                go_upto_region 17 with fail
                have HS := Lib.hid (HSB.out.step HMR.out)
                replace HS := Lib.hid ((Ev.own HROW.out).and HS.out)
                replace HS := Lib.hid ((Ev.rd HAR.out).and HS.out)
                replace HS := Lib.hid ((Ev.mod wr).and HS.out)
                clear e0 e1 e2 e3 hixa
                obtain ⟨b12, hb12⟩ : ∃ b, wr.heap.size = b := ⟨_, rfl⟩
                obtain ⟨wq5, hwq5⟩ : ∃ W, World.alloc wr (.cells #[.int .i64 (ka1 : Int), .int .i64 (kb1 : Int), .int .i64 wz, .int .i64 (-1)] 72) = W := ⟨_, rfl⟩
                have hBb12 : Blk wq5 b12 72 [.int .i64 (ka1 : Int), .int .i64 (kb1 : Int), .int .i64 wz, .int .i64 (-1)] := by rw [← hwq5, ← hb12]; exact Blk.new _ 72 [.int .i64 (ka1 : Int), .int .i64 (kb1 : Int), .int .i64 wz, .int .i64 (-1)]
                have hzb12 : wq5.heap.size = b12 + 1 := by rw [← hwq5, ← hb12]; exact heap_size_alloc _ _
                replace HS := Lib.hid (HS.out.step (w' := wq5) (by rw [← hwq5]; exact Mod.alloc _ _ _))
                replace HS := Lib.hid ((Ev.blk hBb12).and HS.out)
                try rw [hwq5]
                try rw [hb12]
                clear hzb12 hBb12 hb12 hwq5
                have hbbx := (HS.out.now).2.2.2.2.1
                have qbx_0 := hbbx.cell 0 rfl
                have qbx_1 := hbbx.cell 1 rfl
                have qbx_2 := hbbx.cell 2 rfl
                have lbx := hbbx.lt
                clear hbbx
                have hbb12 := (HS.out.now).1
                have qb12_0 := hbb12.cell 0 rfl
                have qb12_1 := hbb12.cell 1 rfl
                have qb12_2 := hbb12.cell 2 rfl
                have qb12_3 := hbb12.cell 3 rfl
                have lb12 := hbb12.lt
                clear hbb12
                obtain ⟨cb, hcb⟩ : ∃ b, clB cl (kb1 : Int) = b := ⟨_, rfl⟩
                have HCB := Lib.hid hcb
                go_wp2_with fail
                refine (r4closed_any _ a n c cl HN.out ((HS.out.now).2.2.2.2.2.1) (kb1 : Int)).mono ?_
                rintro e w' ⟨rfl, rfl⟩
                rw [hcb]
                clear hcb
                cases cb with
                | true =>
                  go_wp2_with fail
                  go_roundw
                  case rel => exact ⟨j + 1, dz, gb, hlt, by go_num, rfl, HBF.out, fun h => ⟨(HQ.out h).1, fun i hi e b hib hr hb => by
                    rcases Nat.lt_or_ge i j with h1 | h1
                    · exact (HQ.out h).2 i h1 e b hib hr hb
                    · have h2 : i = j := by omega
                      subst h2
                      rw [List.getElem?_eq_getElem hjl, HKA.out] at hib
                      simp only [Option.some.injEq, Prod.mk.injEq] at hib
                      have hb1 : ka1 = b := by omega
                      have ha1 : kb1 = e := by omega
                      subst hb1
                      subst ha1
                      have := hr.2; rw [HCB.out] at this; cases this⟩, HPO.out, (HS.out.now).2.2.2.1, ((HS.out.now).2.2.1), (HMR.out.of2 (HS.out.now).2.1)⟩
                  case measure => simp [intOf]; omega
                | false =>
                  have hsl : ka1 < n2 := by rw [← he.out]; exact hkal
                  have hdl2 : kb1 < n2 := by rw [← he.out]; exact hkbl
                  have hixs := fun wx => own_ix iI hiI hsI rb n2 ka1 hsl wx
                  have hixd := fun wx => own_ix iI hiI hsI rb n2 kb1 hdl2 wx
                  have HIXS := Lib.hid hixs
                  have HIXD := Lib.hid hixd
                  have qs := own_at ((HS.out.now).2.2.2.1) ka1 hsl
                  have qd := own_at ((HS.out.now).2.2.2.1) kb1 hdl2
                  have htp := HBF.out.top (by show G.E.length ≤ 512; rw [he.out]; exact hes)
                  have ht1 := htp ka1
                  have ht2 := htp kb1
                  have hl1 := HBF.out.low ka1
                  have hl2 := HBF.out.low kb1
                  clear htp
                  obtain ⟨xs, hxs⟩ : ∃ x, dAt dz ka1 = x := ⟨_, rfl⟩
                  obtain ⟨xd, hxd⟩ : ∃ x, dAt dz kb1 = x := ⟨_, rfl⟩
                  rw [hxs] at qs ht1 hl1
                  rw [hxd] at qd ht2 hl2
                  have HXS := Lib.hid hxs
                  have HXD := Lib.hid hxd
                  clear hxs hxd
                  have HQS : Hid (∀ W, World.ownsRow W 0 3 1 (.slice (some ⟨rb, 0, none⟩) n2 n2) n2 ((dz).map (Value.int .i64)) → W.cell? ⟨rb, ka1, none⟩ = some (.int .i64 xs)) := Lib.hid fun W hW => by rw [← HXS.out]; exact own_at hW ka1 hsl
                  have HQD : Hid (∀ W, World.ownsRow W 0 3 1 (.slice (some ⟨rb, 0, none⟩) n2 n2) n2 ((dz).map (Value.int .i64)) → W.cell? ⟨rb, kb1, none⟩ = some (.int .i64 xd)) := Lib.hid fun W hW => by rw [← HXD.out]; exact own_at hW kb1 hdl2
                  by_cases hx0 : xs < 0
                  case pos =>
                    have z1 : decide (xs < 0) = true := by simpa using hx0
                    have HX0 := Lib.hid hx0
                    clear hx0
                    go_wp2_with fail
                    go_roundw
                    case rel => exact ⟨j + 1, dz, gb, hlt, by go_num, rfl, HBF.out, fun h => ⟨(HQ.out h).1, fun i hi e b hib hr hb => by
                      rcases Nat.lt_or_ge i j with h1 | h1
                      · exact (HQ.out h).2 i h1 e b hib hr hb
                      · have h2 : i = j := by omega
                        subst h2
                        rw [List.getElem?_eq_getElem hjl, HKA.out] at hib
                        simp only [Option.some.injEq, Prod.mk.injEq] at hib
                        have hb1 : ka1 = b := by omega
                        have ha1 : kb1 = e := by omega
                        subst hb1
                        subst ha1
                        rw [HXS.out] at hb; have := HX0.out; omega⟩, HPO.out, (HS.out.now).2.2.2.1, ((HS.out.now).2.2.1), (HMR.out.of2 (HS.out.now).2.1)⟩
                    case measure => simp [intOf]; omega
                  case neg =>
                    have z1 : decide (xs < 0) = false := by simpa using hx0
                    have hx1 : 0 ≤ xs := by omega
                    go_upto_region 18 with fail
                    clear qs qd hixs hixd
                    clear qbx_0 qbx_1 qbx_2 lbx qb12_0 qb12_1 qb12_2 qb12_3 lb12
                    have HSd := Lib.hid HS.out.drew
                    refine wp_region_inv3 (act := ?actrfrom_r18_0) (Mod (fun _ => False)) (fun i => (rfrom_r18_0_F n2 rb ka1 wz b12 xs).getD i (fun _ _ => True)) (fun i => rfrom_r18_0_D.getD i []) (by kernel_rfl) (by kernel_rfl) (by kernel_rfl) (by kernel_rfl) (fun _ => Mod.refl _ _)
                      (fun _ _ _ h k => h.trans k (fun _ _ e => e) (fun _ _ e => e)) ?hactrfrom_r18_0 (stable_list ?_) ?_ ?_
                    case hactrfrom_r18_0 => intro vs; simp only [putAll, Nat.zero_add, Nat.reduceAdd, Act.put, List.setIfInBounds_toArray, List.set_cons_succ, List.set_cons_zero]; exact rfl
                    · unfold rfrom_r18_0_F
                      exact stable_cons (stable_val _) <| stable_cons (stable_val _) <| stable_cons (stable_val _) <| stable_cons (stable_val _) <| stable_cons (stable_val _) <| stable_cons (stable_val _) <| stable_cons (stable_val _) <| stable_cons (stable_val _) <| stable_cons (stable_val _) <| stable_nil
                    · refine opsOkA_cons ?_ ?_
                      · intro K vs W hR hD hK
                        clear hD
                        try dsimp only at hK ⊢
                        simp only [Act.put, List.setIfInBounds_toArray, List.set_cons_succ, List.set_cons_zero] at hK
                        go_wp2
                        exact hK _ _ rfl (Mod.refl _ _)
                      refine opsOkA_cons ?_ ?_
                      · intro K vs W hR hD hK
                        clear hD
                        try dsimp only at hK ⊢
                        simp only [Act.put, List.setIfInBounds_toArray, List.set_cons_succ, List.set_cons_zero] at hK
                        go_wp2
                        exact hK _ _ rfl (Mod.refl _ _)
                      refine opsOkA_cons ?_ ?_
                      · intro K vs W hR hD hK
                        have dq1 : vs 1 = .pointer (some ⟨b12, 0, none⟩) := hD 1 (by decide)
                        clear hD
                        try dsimp only at hK ⊢
                        simp only [Act.put, List.setIfInBounds_toArray, List.set_cons_succ, List.set_cons_zero] at hK
                        generalize vs 1 = vq1 at hK dq1 ⊢
                        subst vq1
                        have q0 := ((HSd.out.at (hR)).1).cell 0 rfl
                        go_wp2
                        exact hK _ _ rfl (Mod.refl _ _)
                      refine opsOkA_cons ?_ ?_
                      · intro K vs W hR hD hK
                        have dq0 : vs 0 = .slice (some ⟨rb, 0, none⟩) n2 n2 := hD 0 (by decide)
                        have dq2 : vs 2 = .int .i64 (ka1 : Int) := hD 2 (by decide)
                        clear hD
                        try dsimp only at hK ⊢
                        simp only [Act.put, List.setIfInBounds_toArray, List.set_cons_succ, List.set_cons_zero] at hK
                        generalize vs 0 = vq0 at hK dq0 ⊢
                        subst vq0
                        generalize vs 2 = vq2 at hK dq2 ⊢
                        subst vq2
                        have hix := HIXS.out
                        go_wp2_with fail
                        exact hK _ _ rfl (Mod.refl _ _)
                      refine opsOkA_cons ?_ ?_
                      · intro K vs W hR hD hK
                        have dq3 : vs 3 = .pointer (some ⟨rb, ka1, none⟩) := hD 3 (by decide)
                        clear hD
                        try dsimp only at hK ⊢
                        simp only [Act.put, List.setIfInBounds_toArray, List.set_cons_succ, List.set_cons_zero] at hK
                        generalize vs 3 = vq3 at hK dq3 ⊢
                        subst vq3
                        have q0 := HQS.out _ ((HSd.out.at (hR)).2.2.2.1)
                        go_wp2
                        exact hK _ _ rfl (Mod.refl _ _)
                      refine opsOkA_cons ?_ ?_
                      · intro K vs W hR hD hK
                        clear hD
                        try dsimp only at hK ⊢
                        simp only [Act.put, List.setIfInBounds_toArray, List.set_cons_succ, List.set_cons_zero] at hK
                        go_wp2
                        exact hK _ _ rfl (Mod.refl _ _)
                      refine opsOkA_cons ?_ ?_
                      · intro K vs W hR hD hK
                        have dq5 : vs 5 = .pointer (some ⟨b12, 2, none⟩) := hD 5 (by decide)
                        clear hD
                        try dsimp only at hK ⊢
                        simp only [Act.put, List.setIfInBounds_toArray, List.set_cons_succ, List.set_cons_zero] at hK
                        generalize vs 5 = vq5 at hK dq5 ⊢
                        subst vq5
                        have q0 := ((HSd.out.at (hR)).1).cell 2 rfl
                        go_wp2
                        exact hK _ _ rfl (Mod.refl _ _)
                      refine opsOkA_cons ?_ ?_
                      · intro K vs W hR hD hK
                        have dq4 : vs 4 = .int .i64 xs := hD 4 (by decide)
                        have dq6 : vs 6 = .int .i64 wz := hD 6 (by decide)
                        clear hD
                        try dsimp only at hK ⊢
                        simp only [Act.put, List.setIfInBounds_toArray, List.set_cons_succ, List.set_cons_zero] at hK
                        generalize vs 4 = vq4 at hK dq4 ⊢
                        subst vq4
                        generalize vs 6 = vq6 at hK dq6 ⊢
                        subst vq6
                        go_wp2
                        exact hK _ _ rfl (Mod.refl _ _)
                      refine opsOkA_cons ?_ ?_
                      · intro K vs W hR hD hK
                        have dq7 : vs 7 = .int .i64 (xs + wz) := hD 7 (by decide)
                        clear hD
                        try dsimp only at hK ⊢
                        simp only [Act.put, List.setIfInBounds_toArray, List.set_cons_succ, List.set_cons_zero] at hK
                        generalize vs 7 = vq7 at hK dq7 ⊢
                        subst vq7
                        go_wp2
                        exact hK _ _ rfl (Mod.refl _ _)
                      exact opsOkA_nil
                    · intro vs wq6 hR hF
                      have dq8 : vs 8 = .int .i64 (xs + wz) := hF 8 (by decide)
                      clear hF
                      try dsimp only
                      generalize vs 8 = vq8 at dq8 ⊢
                      subst dq8
                      replace HS := Lib.hid (HSd.out.step hR)
                      clear HSd hR
                      have hbbx := (HS.out.now).2.2.2.2.1
                      have qbx_0 := hbbx.cell 0 rfl
                      have qbx_1 := hbbx.cell 1 rfl
                      have qbx_2 := hbbx.cell 2 rfl
                      have lbx := hbbx.lt
                      clear hbbx
                      have hbb12 := (HS.out.now).1
                      have qb12_0 := hbb12.cell 0 rfl
                      have qb12_1 := hbb12.cell 1 rfl
                      have qb12_2 := hbb12.cell 2 rfl
                      have qb12_3 := hbb12.cell 3 rfl
                      have lb12 := hbb12.lt
                      clear hbb12
                      have hixd := HIXD.out
                      have hixs := HIXS.out
                      have qd := HQD.out _ ((HS.out.now).2.2.2.1)
                      have qs := HQS.out _ ((HS.out.now).2.2.2.1)
                      by_cases hc : xd < 0 ∨ xs + wz < xd
                      case neg =>
                        have z2 : decide (xd < 0) = false := by simp; omega
                        have z3 : decide (xs + wz < xd) = false := by simp; omega
                        have hc1 : 0 ≤ xd ∧ xd ≤ xs + wz := by omega
                        have HC := Lib.hid hc1
                        clear hc hc1
                        go_wp2_with fail
                        go_roundw
                        case rel => exact ⟨j + 1, dz, gb, hlt, by go_num, rfl, HBF.out, fun h => ⟨(HQ.out h).1, fun i hi e b hib hr hb => by
                          rcases Nat.lt_or_ge i j with h1 | h1
                          · exact (HQ.out h).2 i h1 e b hib hr hb
                          · have h2 : i = j := by omega
                            subst h2
                            rw [List.getElem?_eq_getElem hjl, HKA.out] at hib
                            simp only [Option.some.injEq, Prod.mk.injEq] at hib
                            have hb1 : ka1 = b := by omega
                            have ha1 : kb1 = e := by omega
                            subst hb1
                            subst ha1
                            show 0 ≤ dAt dz kb1 ∧ dAt dz kb1 ≤ dAt dz ka1 + (eAt G (kb1 : Int)).2.2; rw [HXS.out, HXD.out, HWZ.out]; exact HC.out⟩, HPO.out, (HS.out.now).2.2.2.1, ((HS.out.now).2.2.1), (HMR.out.of2 (HS.out.now).2.1)⟩
                        case measure => simp [intOf]; omega
                      case pos =>
                        have hwt : (webFrom G hm (ka : Int) cl).wt kb1 ka1 = wz := HWZ.out
                        have hrl : (webFrom G hm (ka : Int) cl).rl kb1 ka1 := ⟨HKT.out, HCB.out⟩
                        have hb9 := HBF.out.relax (by show G.E.length ≤ 512; rw [he.out]; exact hes) hrl (by rw [HXS.out]; exact hx1) (by rw [HXS.out, HXD.out, hwt]; exact hc)
                        rw [HXS.out, hwt] at hb9
                        have hroom := Room.ofOwn ((HS.out.now).2.2.2.1) kb1 (by omega)
                        have q1 := hroom.free
                        have hst := (((HS.out.now).2.2.2.1).stored kb1 (.int .i64 (xs + wz))).1
                        rw [← List.map_set] at hst
                        have hms : Mod (fun i => i = rb) wq6 (wq6.setCell ⟨rb, kb1, none⟩ (.int .i64 (xs + wz))) := Mod.setCell _ _ _ rfl
                        have ha9 := ((HS.out.now).2.2.1).keep hms (fun k hk e => HAP.out k hk e)
                        have hm9 := (HMR.out.of2 (HS.out.now).2.1).old hms (fun i hi => by have h1 := HRB.out; have h2 : i = rb := hi; omega)
                        have HB9 := Lib.hid hb9
                        have HR9 := Lib.hid hst
                        have HA9 := Lib.hid ha9
                        have HM9 := Lib.hid hm9
                        clear hb9 hst ha9 hm9 hms hroom hwt hrl
                        have hpo : pot (dz.set kb1 (xs + wz)) < pot d := by
                          have h1 := HB9.out.2
                          cases gb with
                          | false => rw [← (HQ.out (by simp)).1]; exact h1
                          | true => exact Nat.lt_trans h1 (HPO.out (by simp))
                        have HP9 := Lib.hid hpo
                        clear hpo
                        by_cases hxn : xd < 0
                        case pos =>
                          have z2 : decide (xd < 0) = true := by simpa using hxn
                          clear hc hxn
                          go_wp2_with fail
                          go_roundw
                          case rel => exact ⟨j + 1, dz.set kb1 (xs + wz), true, hlt, by go_num, rfl, HB9.out.1, fun h => (by cases h), fun _ => HP9.out, HR9.out, HA9.out, HM9.out⟩
                          case measure => simp [intOf]; omega
                        case neg =>
                          have z2 : decide (xd < 0) = false := by simpa using hxn
                          have z3 : decide (xs + wz < xd) = true := by simp; omega
                          clear hc hxn
                          go_wp2_with fail
                          go_roundw
                          case rel => exact ⟨j + 1, dz.set kb1 (xs + wz), true, hlt, by go_num, rfl, HB9.out.1, fun h => (by cases h), fun _ => HP9.out, HR9.out, HA9.out, HM9.out⟩
                          case measure => simp [intOf]; omega
end Go.Proofs.Ytbjdjafkpldbnaa
