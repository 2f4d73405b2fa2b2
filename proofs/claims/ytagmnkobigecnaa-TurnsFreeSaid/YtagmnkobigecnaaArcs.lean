/- turns.Arcs by contract. -/
import Derived.Test.YtagmnkobigecnaaTurns
import Derived.Deep.DeepCutAuto
import Derived.Deep.CutBlock
namespace Go.Proofs.Ytagmnkobigecnaa
open Go.RowKit Mile
set_option maxRecDepth 100000
theorem infoA : (Try.prog.info? 91).map (fun i => (i.zero, i.size, i.bytes)) = some (some (.agg #[.int .i64 0, .int .i64 0, .int .i64 0, .int .i64 0]), 4, 32) := by kernel_rfl
/-- A row of arcs in new memory. -/
def ARow (xs : List P4) : Value → World → Prop := fun v W => ∃ a c, v = .slice a xs.length c ∧ Rd W 4 (.slice a xs.length c) xs.length (xs.flatMap c4)
theorem ARow.st (xs : List P4) : Stable (Mod (fun _ => False)) (ARow xs) := fun _ _ _ ⟨a, c, h, hr⟩ hm => ⟨a, c, h, hr.keep hm (fun _ _ e => e)⟩
theorem one4 (x : P4) : ∀ u ∈ c4 x, u.oneCell' = true := by
  intro u hu; simp [c4] at hu; rcases hu with rfl | rfl | rfl | rfl <;> rfl
theorem arcsOf_take (G : GD) (a : Int) (k : Nat) (h : k < (nxtR G a).length) : (arcsOf G a).take (k + 1) = (arcsOf G a).take k ++ [arcOf G a ((nxtR G a)[k])] := by
  have hl : k < (arcsOf G a).length := by unfold arcsOf; rw [List.length_map]; exact h
  rw [List.take_succ_eq_append_getElem hl]
  congr 1
  simp [arcsOf]
theorem arcsOf_all (G : GD) (a : Int) (k : Nat) (h : k = (nxtR G a).length) : (arcsOf G a).take k = arcsOf G a := List.take_of_length_le (by unfold arcsOf; rw [List.length_map]; omega)
theorem arcsPart_len (G : GD) (hm : G.E.length ≤ 512) (j : Nat) (hj : j ≤ G.E.length) (k : Nat) : (arcsTo G j ++ (arcsOf G (j : Int)).take k).length ≤ 300000 := by
  rw [List.length_append]
  have h1 := arcsTo_len G j
  have h2 : ((arcsOf G (j : Int)).take k).length ≤ (arcsOf G (j : Int)).length := List.length_take_le' _ _
  have h3 : (arcsOf G (j : Int)).length ≤ G.E.length := by unfold arcsOf; rw [List.length_map]; exact nxtR_len G j
  have h4 : j * G.E.length ≤ 512 * 512 := Nat.mul_le_mul (by omega) hm
  omega
/-- A row of arcs of the call's own, in blocks from B0 on. -/
def AOwn (B0 : Nat) (xs : List P4) (v : Value) (W : World) : Prop := W.ownsRow B0 91 4 v xs.length (xs.flatMap c4)
theorem AOwn.keep {B0 : Nat} {xs : List P4} {v : Value} {W W' : World} (h : AOwn B0 xs v W) (m : Mod (fun _ => False) W W') : AOwn B0 xs v W' := Own.keep h m (fun _ _ e => e)
theorem AOwn.push {B0 : Nat} {xs : List P4} {x : P4} {v v' : Value} {W W' : World} (h : AOwn B0 xs v W) (hz : B0 ≤ W.heap.size) (ha : Appended W W' 91 4 v v' (xs.length + 1) (xs.flatMap c4 ++ c4 x)) : AOwn B0 (xs ++ [x]) v' W' := by
  unfold AOwn
  rw [c4_snoc, List.length_append]
  exact Own.rebase ha.own (ha.low hz (fun k hk => (h.lt k hk).1))

set_option maxHeartbeats 16000000 in
theorem arcs_any (t p B C : Nat) (G : GD) (w : World) (h : TO w t p B C G) :
    Calls Try.prog 18 #[.pointer (some ⟨t, 0, none⟩)] w fun e w' => ∃ v, e = .returned v ∧ ARow (arcsR G) v w' ∧ Mod (fun _ => False) w w' := by
  obtain ⟨iI, hiI, hzI, hsI, hbI⟩ := info_parts GR.infoI
  obtain ⟨iA, hiA, hzA, hsA, hbA⟩ := info_parts infoA
  have hmay := Lib.hid h.go.may
  have hle := h.go.may.1.2.1
  obtain ⟨ne, hne⟩ : ∃ n, G.E.length = n := ⟨_, rfl⟩
  rw [hne] at hle
  have HE := Lib.hid hne
  clear hne
  have HS : Hid (Ev (Mod (fun _ => False) w) w) := Lib.hid (Ev.mod w)
  replace HS := Lib.hid ((Ev.to h).and HS.out)
  have HSW := HS
  obtain ⟨B0, hB0⟩ : ∃ n, w.heap.size = n := ⟨_, rfl⟩
  have HB0 := Lib.hid hB0
  clear hB0
  have qt := ((HS.out.now).1).blk.cell 0 rfl
  go_enter Try.func18, Try.ntmps18
  go_wp2_with fail
  refine (edges_any p B C _ G ((HS.out.now).1).go).mono ?_
  rintro e w' ⟨rfl, rfl⟩
  rw [HE.out]
  clear qt
  go_wp2_with fail
  go_loopw [3, 16] (fun v i wr => ∃ j : Nat, j ≤ ne ∧ i = .int .i64 j ∧ Mod (fun _ => False) w wr ∧ AOwn B0 (arcsTo G j) v wr) (fun _ i _ => ne - (intOf i).toNat)
  case atStart => exact ⟨0, by omega, rfl, Mod.refl _ _, World.ownsRow_nil _ _ _ _⟩
  case round =>
    obtain ⟨j, hj, rfl, hmr, hown⟩ := hrel
    obtain ⟨wo, hwo⟩ : ∃ x : World, x = wr := ⟨_, rfl⟩
    subst hwo
    replace HS := Lib.hid (HS.out.step hmr)
    clear hmr
    have HO := Lib.hid hown
    clear hown
    by_cases hlt : j < ne
    case pos =>
      have z0 : decide ((j : Int) < (ne : Int)) = true := by simp; omega
      go_wp2_with fail
      refine (next_new t p B C G _ ((HS.out.now).1) (j : Int)).mono ?_
      rintro e wq1 ⟨x', rfl, ⟨⟨an, cn, rfl, hx'⟩, hlow⟩, hmm⟩
      have HMT := Lib.hid hmm
      replace HS := Lib.hid (HS.out.step hmm)
      clear hmm
      have HO2 := Lib.hid (HO.out.keep HMT.out)
      obtain ⟨ln, hln⟩ : ∃ n, (nxtR G (j : Int)).length = n := ⟨_, rfl⟩
      rw [hln] at hx' hlow ⊢
      have hl1 : ln ≤ 512 := by rw [← hln]; have := nxtR_len G (j : Int); have := HE.out; omega
      have HLN := Lib.hid hln
      clear hln
      have HR0 := Lib.hid hx'
      have HNE0 : Hid (∀ v, AOwn B0 (arcsTo G j) v wo → ∀ q, v.ownBlock = some q → (Value.slice an ln cn).ownBlock ≠ some q) := Lib.hid fun v hv q h1 h2 => by have := (hv.lt q h1).2; have := hlow q h2; omega
      clear hx' hlow
      go_wp2_with fail
      go_loopw [3, 23] (fun v i wr => ∃ k : Nat, k ≤ ln ∧ i = .int .i64 k ∧ Mod (fun _ => False) w wr ∧ AOwn B0 (arcsTo G j ++ (arcsOf G (j : Int)).take k) v wr ∧ Rd wr 1 (.slice an ln cn) ln ((nxtR G (j : Int)).map (Value.int .i64)) ∧ ∀ q, v.ownBlock = some q → (Value.slice an ln cn).ownBlock ≠ some q) (fun _ i _ => ln - (intOf i).toNat)
      case atStart => exact ⟨0, by omega, rfl, HS.out.now.2, by rw [List.take_zero, List.append_nil]; exact HO2.out, HR0.out, HNE0.out _ HO.out⟩
      case round =>
        obtain ⟨k, hk, rfl, hmr, hown, hrn, hne⟩ := hrel
        obtain ⟨wq, hwo⟩ : ∃ x : World, x = wr := ⟨_, rfl⟩
        subst hwo
        replace HS := Lib.hid (HSW.out.step hmr)
        clear hmr
        replace HS := Lib.hid ((Ev.rd hrn).and HS.out)
        have HNE := Lib.hid hne
        clear hrn hne
        obtain ⟨pt, hpt⟩ : ∃ l, arcsTo G j ++ (arcsOf G (j : Int)).take k = l := ⟨_, rfl⟩
        rw [hpt] at hown
        have hpl : pt.length ≤ 300000 := by rw [← hpt]; exact arcsPart_len G (by have := HE.out; omega) j (by have := HE.out; omega) k
        have HPT := Lib.hid hpt
        have HO3 := Lib.hid hown
        obtain ⟨av, cv, rfl⟩ := own_form HO3.out
        clear hown hpt
        by_cases hlk : k < ln
        case pos =>
          have z1 : decide ((k : Int) < (ln : Int)) = true := by simp; omega
          have hkl : k < (nxtR G (j : Int)).length := by rw [HLN.out]; exact hlk
          obtain ⟨kb, hkb, hkbe, _⟩ := nxtR_at G (j : Int) k hkl
          obtain ⟨xb, hxb⟩ : ∃ x, (G.E[kb]).1 = x := ⟨_, rfl⟩
          have Hxb := Lib.hid hxb
          clear hxb
          obtain ⟨yb, hyb⟩ : ∃ x, (G.E[kb]).2.1 = x := ⟨_, rfl⟩
          have Hyb := Lib.hid hyb
          clear hyb
          obtain ⟨zb, hzb⟩ : ∃ x, (G.E[kb]).2.2 = x := ⟨_, rfl⟩
          have Hzb := Lib.hid hzb
          clear hzb
          have HKB := Lib.hid hkb
          clear hkb
          obtain ⟨eb, eo, hpl, e0⟩ := rd1 (HS.out.now).1 k hkl
          have hix := fun wx => run_indexS (P := Try.prog) wx 22 3 iI 1 Try.underlying22 hiI hsI an ln cn k hlk ((HS.out.now).1.some_ (by have := hlk; omega))
          rw [hpl] at hix
          have HIe := Lib.hid hix
          clear hix hpl
          rw [HKB.out] at e0
          replace HS := Lib.hid ((Ev.cell e0).and HS.out)
          clear e0
          have qe := (HS.out.now).1
          have hix := HIe.out
          have qt := ((HS.out.now).2.2.1).blk.cell 0 rfl
          go_wp2_with fail
          refine (edge_at p B C _ G ((HS.out.now).2.2.1).go kb hkbe xb yb zb Hxb.out Hyb.out Hzb.out).mono ?_
          rintro e wq2 ⟨rfl, hmm⟩
          have HMT := Lib.hid hmm
          replace HS := Lib.hid (HS.out.step hmm)
          clear hmm
          clear qe hix qt
          have HO4 := Lib.hid (HO3.out.keep HMT.out)
          go_upto_region 11 with fail
          obtain ⟨b7, hb7⟩ : ∃ b, wq2.heap.size = b := ⟨_, rfl⟩
          obtain ⟨wq3, hwq3⟩ : ∃ W, World.alloc wq2 (.cells #[.int .i64 xb, .int .i64 yb, .int .i64 zb] 41) = W := ⟨_, rfl⟩
          have hBb7 : Blk wq3 b7 41 [.int .i64 xb, .int .i64 yb, .int .i64 zb] := by rw [← hwq3, ← hb7]; exact Blk.new _ 41 [.int .i64 xb, .int .i64 yb, .int .i64 zb]
          have hzb7 : wq3.heap.size = b7 + 1 := by rw [← hwq3, ← hb7]; exact heap_size_alloc _ _
          replace HS := Lib.hid (HS.out.step (w' := wq3) (by rw [← hwq3]; exact Mod.alloc _ _ _))
          replace HS := Lib.hid ((Ev.blk hBb7).and HS.out)
          have HO5 := Lib.hid (HO4.out.keep (show Mod (fun _ => False) wq2 wq3 by rw [← hwq3]; exact Mod.alloc _ _ _))
          try rw [hwq3]
          try rw [hb7]
          clear hzb7 hBb7 hb7 hwq3
          have hbb7 := (HS.out.now).1
          have qb7_0 := hbb7.cell 0 rfl
          have qb7_1 := hbb7.cell 1 rfl
          have qb7_2 := hbb7.cell 2 rfl
          have lb7 := hbb7.lt
          clear hbb7
          have hz : B0 ≤ wq3.heap.size := by rw [← HB0.out]; exact ((HS.out.now).2.2.2.2).size
          go_wp2_with (at_builtin; refine wpList_append_any rfl (.tmp 36) (.tmp 42) 44 rfl 91 iA (.agg #[.int .i64 0, .int .i64 0, .int .i64 0, .int .i64 0]) 4 32 Try.underlying44 hiA hzA hsA hbA rfl (by decide) _ pt.length (pt.flatMap c4) rfl (World.ownsRow.alloc (Own.base HO5.out (Nat.zero_le _)) _) _ 1 (c4 ((j : Int), (kb : Int), zb, -1)) rfl (Rd.litN _ 4 _ _ _ 1 rfl rfl (by decide)) (one4 _) (by unfold maxLen; omega) (by omega) ?_; intro v4 w4 hap; obtain ⟨a4, c4', rfl⟩ := hap.form; have HAP := Lib.hid hap; clear hap)
          have hap := HAP.out
          have HO6 := Lib.hid (AOwn.push (x := ((j : Int), (kb : Int), zb, -1)) (HO5.out.keep (Mod.alloc _ _ _)) (by simp; omega) hap)
          have HM6 := Lib.hid (hap.modOld (((HS.out.now).2.2.2.2).thenAlloc _) (fun k hk => by rw [HB0.out]; exact (HO5.out.lt k hk).1))
          have hrx := ((HS.out.now).2.2.1)
          have HR6 := Lib.hid ((hrx.keep (Mod.alloc (fun _ => False) _ _) (fun _ _ e => e)).keep hap.mod (fun q hq e => HNE.out q e hq))
          have hlt8 : ∀ q, (Value.slice an ln cn).ownBlock = some q → q < wq3.heap.size := fun q h2 => by
            rcases Nat.lt_or_ge q wq3.heap.size with h | h
            · exact h
            · have h5 := hrx.lt h2 h
              have h6 := congrArg List.length h5
              rw [List.length_map, HLN.out] at h6
              simp only [List.length_nil] at h6
              omega
          have HNE6 : Hid (∀ q, (Value.slice a4 (pt.length + 1) c4').ownBlock = some q → (Value.slice an ln cn).ownBlock ≠ some q) := Lib.hid (fun q h1 h2 => by
            rcases hap.row q h1 with h3 | h3
            · exact HNE.out q h3 h2
            · have := hlt8 q h2; simp at h3; omega)
          clear hap hrx hlt8
          go_roundw
          case rel =>
            refine ⟨k + 1, hlk, by go_num, HM6.out, ?_, HR6.out, HNE6.out⟩
            · rw [arcsOf_take G (j : Int) k hkl, ← List.append_assoc, HPT.out, HKB.out, show arcOf G (j : Int) (kb : Int) = ((j : Int), (kb : Int), zb, -1) by unfold arcOf; rw [eAt_eq G kb hkbe, Hzb.out]]; exact HO6.out
          case measure => simp [intOf]; omega
        case neg =>
          obtain rfl : k = ln := by omega
          have z1 : decide ((k : Int) < (k : Int)) = false := by simp
          go_wp2_with fail
          go_roundw
          case rel => exact ⟨j + 1, hlt, by go_num, (HS.out.now).2.2, by rw [arcsTo_succ, ← arcsOf_all G (j : Int) k HLN.out.symm, HPT.out]; exact HO3.out⟩
          case measure => simp [intOf]; omega
    case neg =>
      obtain rfl : j = ne := by omega
      have z0 : decide ((j : Int) < (j : Int)) = false := by simp
      obtain ⟨av, cv, rfl⟩ := own_form HO.out
      go_wp2_with fail
      go_ret
      refine ⟨_, rfl, ⟨av, cv, ?_, ?_⟩, (HS.out.now).2⟩
      · show Value.slice av (arcsTo G j).length cv = _; unfold arcsR; rw [HE.out]; rfl
      · unfold arcsR; rw [HE.out]; exact Rd.ofOwn HO.out
end Go.Proofs.Ytagmnkobigecnaa
