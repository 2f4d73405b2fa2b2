/- dist.From by contract. -/
import Derived.Test.YtbjdjafkpldbnaaKDist
import Derived.Test.YtbjdjafkpldbnaaKReg
import Derived.Deep.DeepCutAuto
import Derived.Deep.CutBlock
namespace Go.Proofs.Ytbjdjafkpldbnaa
open Go.RowKit Mile
set_option maxRecDepth 100000
attribute [local go_sem] Oper.semAt_some
/-- What From tells. -/
def dfromP (G : GD) (hm : May G) (v : Int) (cl : List Bool) (w : World) (e : Ending) (w' : World) : Prop :=
  ((0 ≤ v ∧ v < (G.E.length : Int)) ∧ ∃ x, e = .returned x ∧ DRow (webFrom G hm v cl) w.heap.size x w' ∧ Mod (fun _ => False) w w') ∨ (¬ (0 ≤ v ∧ v < (G.E.length : Int)) ∧ e = .returned (.slice none 0 0) ∧ Mod (fun _ => False) w w')

set_option maxHeartbeats 16000000 in
theorem dfrom_any (t p B C : Nat) (G : GD) (hm : May G) (w : World) (h : TO w t p B C G) (v : Int) (a : Option Addr) (n c : Nat) (cl : List Bool) (hn : cl.length = n) (hr : Rd w 1 (.slice a n c) n (cl.map Value.bool)) :
    Calls Try.prog 30 #[.pointer (some ⟨t, 0, none⟩), .int .i64 v, .slice a n c] w (dfromP G hm v cl w) := by
  have HS : Hid (Ev (Mod (fun _ => False) w) w) := Lib.hid (Ev.mod w)
  replace HS := Lib.hid ((Ev.to h).and HS.out)
  replace HS := Lib.hid ((Ev.rd hr).and HS.out)
  replace HS := Lib.hid ((Ev.blk h.blk).and HS.out)
  have HS0 := HS
  have H := Lib.hid h
  have HN := Lib.hid hn
  have HCL := Lib.hid hr
  clear h hr hn
  have hmS := hm
  have hes : G.E.length ≤ 512 := hm.1.2.1
  clear hmS
  obtain ⟨iI, hiI, hzI, hsI, hbI⟩ := info_parts GR.infoI
  refine calls_of_rf Try.func30 rfl ?_
  simp only [Try.ntmps30, List.size_toArray, List.length_cons, List.length_nil, Nat.reduceAdd, Nat.reduceSub, Array.replicate_succ, Array.replicate_zero, List.push_toArray, List.append_toArray, List.nil_append, List.cons_append]
  go_upto_region 1 with fail
  obtain ⟨b3, hb3⟩ : ∃ b, w.heap.size = b := ⟨_, rfl⟩
  obtain ⟨wq1, hwq1⟩ : ∃ W, World.alloc w (.cells #[.pointer (some ⟨t, 0, none⟩)] 29) = W := ⟨_, rfl⟩
  have hBb3 : Blk wq1 b3 29 [.pointer (some ⟨t, 0, none⟩)] := by rw [← hwq1, ← hb3]; exact Blk.new _ 29 [.pointer (some ⟨t, 0, none⟩)]
  have hzb3 : wq1.heap.size = b3 + 1 := by rw [← hwq1, ← hb3]; exact heap_size_alloc _ _
  replace HS := Lib.hid (HS.out.step (w' := wq1) (by rw [← hwq1]; exact Mod.alloc _ _ _))
  replace HS := Lib.hid ((Ev.blk hBb3).and HS.out)
  obtain ⟨b5, hb5⟩ : ∃ b, b3 + 1 = b := ⟨_, rfl⟩
  obtain ⟨wq2, hwq2⟩ : ∃ W, World.alloc wq1 (.cells #[.slice a n c] 32) = W := ⟨_, rfl⟩
  have hBb5 : Blk wq2 b5 32 [.slice a n c] := by rw [← hwq2, ← hb5, ← hzb3]; exact Blk.new _ 32 [.slice a n c]
  have hzb5 : wq2.heap.size = b5 + 1 := by rw [← hwq2, ← hb5, ← hzb3]; exact heap_size_alloc _ _
  replace HS := Lib.hid (HS.out.step (w' := wq2) (by rw [← hwq2]; exact Mod.alloc _ _ _))
  replace HS := Lib.hid ((Ev.blk hBb5).and HS.out)
  try rw [hwq1]
  try rw [hb3]
  try rw [hwq2]
  try rw [hb5]
  clear hzb5 hBb5 hb5 hwq2 hzb3 hBb3 hb3 hwq1
  have hbb3 := (HS.out.now).2.1
  have qb3_0 := hbb3.cell 0 rfl
  have lb3 := hbb3.lt
  clear hbb3
  have hbb5 := (HS.out.now).1
  have qb5_0 := hbb5.cell 0 rfl
  have lb5 := hbb5.lt
  clear hbb5
  have hbt := (HS.out.now).2.2.1
  have qt_0 := hbt.cell 0 rfl
  have lt := hbt.lt
  clear hbt
  by_cases hv : 0 ≤ v ∧ v < (G.E.length : Int)
  case neg =>
    go_wp2_with fail
    refine (edge_out p B C G _ ((HS.out.now).2.2.2.2.1).go v hv).mono ?_
    rintro e wq3 ⟨rfl, hmm⟩
    replace HS := Lib.hid (HS.out.step hmm)
    clear hmm
    clear qb3_0 lb3 qb5_0 lb5 qt_0 lt
    have hbb3 := (HS.out.now).2.1
    have qb3_0 := hbb3.cell 0 rfl
    have lb3 := hbb3.lt
    clear hbb3
    have hbb5 := (HS.out.now).1
    have qb5_0 := hbb5.cell 0 rfl
    have lb5 := hbb5.lt
    clear hbb5
    have hbt := (HS.out.now).2.2.1
    have qt_0 := hbt.cell 0 rfl
    have lt := hbt.lt
    clear hbt
    go_wp2_with fail
    (try simp only [Exit.inBlock, Exit.then])
    refine rfPost_ret (results_tmp rfl _ _ _) rfl ?_
    exact .inr ⟨hv, rfl, ((HS.out.now).2.2.2.2.2).thenAlloc _⟩
  case pos =>
    obtain ⟨ka, rfl⟩ := Int.eq_ofNat_of_zero_le hv.1
    have hka : ka < G.E.length := by omega
    clear hv
    obtain ⟨nx, hnx⟩ : ∃ x, (eAt G (ka : Int)).1 = x := ⟨_, rfl⟩
    obtain ⟨ny, hny⟩ : ∃ x, (eAt G (ka : Int)).2.1 = x := ⟨_, rfl⟩
    obtain ⟨nz, hnz⟩ : ∃ x, (eAt G (ka : Int)).2.2 = x := ⟨_, rfl⟩
    go_wp2_with fail
    refine (edge_ok p B C G _ ((HS.out.now).2.2.2.2.1).go ka hka nx ny nz hnx hny hnz).mono ?_
    rintro e wq4 ⟨rfl, hmm⟩
    replace HS := Lib.hid (HS.out.step hmm)
    clear hmm
    clear qb3_0 lb3 qb5_0 lb5 qt_0 lt
    have hbb3 := (HS.out.now).2.1
    have qb3_0 := hbb3.cell 0 rfl
    have lb3 := hbb3.lt
    clear hbb3
    have hbb5 := (HS.out.now).1
    have qb5_0 := hbb5.cell 0 rfl
    have lb5 := hbb5.lt
    clear hbb5
    have hbt := (HS.out.now).2.2.1
    have qt_0 := hbt.cell 0 rfl
    have lt := hbt.lt
    clear hbt
    clear hnx hny hnz
    go_upto_region 4 with fail
    clear qb3_0 lb3 qb5_0 lb5 qt_0 lt
    obtain ⟨b7, hb7⟩ : ∃ b, wq4.heap.size = b := ⟨_, rfl⟩
    obtain ⟨wq5, hwq5⟩ : ∃ W, World.alloc wq4 (.cells #[.int .i64 nx, .int .i64 ny, .int .i64 nz] 43) = W := ⟨_, rfl⟩
    have hBb7 : Blk wq5 b7 43 [.int .i64 nx, .int .i64 ny, .int .i64 nz] := by rw [← hwq5, ← hb7]; exact Blk.new _ 43 [.int .i64 nx, .int .i64 ny, .int .i64 nz]
    have hzb7 : wq5.heap.size = b7 + 1 := by rw [← hwq5, ← hb7]; exact heap_size_alloc _ _
    replace HS := Lib.hid (HS.out.step (w' := wq5) (by rw [← hwq5]; exact Mod.alloc _ _ _))
    replace HS := Lib.hid ((Ev.blk hBb7).and HS.out)
    try rw [hwq5]
    try rw [hb7]
    clear hzb7 hBb7 hb7 hwq5
    have hbb3 := (HS.out.now).2.2.1
    have qb3_0 := hbb3.cell 0 rfl
    have lb3 := hbb3.lt
    clear hbb3
    have hbb5 := (HS.out.now).2.1
    have qb5_0 := hbb5.cell 0 rfl
    have lb5 := hbb5.lt
    clear hbb5
    have hbt := (HS.out.now).2.2.2.1
    have qt_0 := hbt.cell 0 rfl
    have lt := hbt.lt
    clear hbt
    go_upto_region 6 with fail
    replace HS := Lib.hid ((Ev.mod wq5).and HS.out)
    have HSP := HS
    obtain ⟨B0, hB0⟩ : ∃ n, wq5.heap.size = n := ⟨_, rfl⟩
    have HB0 := Lib.hid hB0
    clear hB0
    have HOLD : Hid (∀ W, Mod (fun k => B0 ≤ k) (World.drew wq5) W → Mod (fun _ => False) (World.drew wq5) W) := Lib.hid fun W h => h.mono (fun i hi e => by have := HB0.out; simp at hi; omega)
    have HB35 : Hid (b3 < B0 ∧ b5 < B0) := Lib.hid ⟨by have := HB0.out; omega, by have := HB0.out; omega⟩
    have HWB : Hid (w.heap.size ≤ B0) := Lib.hid (by have h1 := HB0.out; have h2 := ((HS.out.now).2.2.2.2.2.2.2).size; omega)
    go_wp2_with fail
    refine (edges_any p B C _ G ((HS.out.now).2.2.2.2.2.2.1).go).mono ?_
    rintro e w' ⟨rfl, rfl⟩
    go_wp2_with fail
    clear qb3_0 lb3 qb5_0 lb5 qt_0 lt
    obtain ⟨b6, hb6⟩ : ∃ b, wq5.heap.size = b := ⟨_, rfl⟩
    obtain ⟨wq6, hwq6⟩ : ∃ W, World.alloc wq5 (.cells #[.int .i64 (ka : Int)] 3) = W := ⟨_, rfl⟩
    have hBb6 : Blk wq6 b6 3 [.int .i64 (ka : Int)] := by rw [← hwq6, ← hb6]; exact Blk.new _ 3 [.int .i64 (ka : Int)]
    have hzb6 : wq6.heap.size = b6 + 1 := by rw [← hwq6, ← hb6]; exact heap_size_alloc _ _
    replace HS := Lib.hid (HS.out.step (w' := wq6) (by rw [← hwq6]; exact Mod.alloc _ _ _))
    replace HS := Lib.hid ((Ev.blk hBb6).and HS.out)
    try rw [hwq6]
    try rw [hb6]
    clear hzb6 hBb6 hb6 hwq6
    have hbb3 := (HS.out.now).2.2.2.2.1
    have qb3_0 := hbb3.cell 0 rfl
    have lb3 := hbb3.lt
    clear hbb3
    have hbb5 := (HS.out.now).2.2.2.1
    have qb5_0 := hbb5.cell 0 rfl
    have lb5 := hbb5.lt
    clear hbb5
    have hbt := (HS.out.now).2.2.2.2.2.1
    have qt_0 := hbt.cell 0 rfl
    have lt := hbt.lt
    clear hbt
    have hzB : B0 ≤ wq6.heap.size := by have h1 := HB0.out; have h2 := ((HS.out.now).2.1).size; omega
    refine (begin_from G hm ka hka cl _ _ 1 (Rd.ofBlk1 ((HS.out.now).1))).mono ?_
    rintro e wq7 ⟨v', rfl, hx', hmm⟩
    replace HS := Lib.hid (HS.out.step hmm)
    clear hmm
    clear qb3_0 lb3 qb5_0 lb5 qt_0 lt
    have hbb3 := (HS.out.now).2.2.2.2.1
    have qb3_0 := hbb3.cell 0 rfl
    have lb3 := hbb3.lt
    clear hbb3
    have hbb5 := (HS.out.now).2.2.2.1
    have qb5_0 := hbb5.cell 0 rfl
    have lb5 := hbb5.lt
    clear hbb5
    have hbt := (HS.out.now).2.2.2.2.2.1
    have qt_0 := hbt.cell 0 rfl
    have lt := hbt.lt
    clear hbt
    have hx := hx'.low hzB
    obtain ⟨ps, rb, Sq, F0, rfl, hs, hDj, hF0, hrb, hrbl⟩ := hx
    clear hx' hzB
    have HSR := Lib.hid hs
    have HDj := Lib.hid hDj
    have HF0 := Lib.hid hF0
    have HMR := Lib.hid ((HS.out.now).2.1)
    clear hs hDj hF0
    obtain ⟨b9, hb9e⟩ : ∃ b, wq7.heap.size = b := ⟨_, rfl⟩
    go_upto_region 7 with fail
    try rw [hb9e]
    obtain ⟨wl, hwl⟩ : ∃ W, wq7.alloc (.cells #[.pointer (some ⟨ps, 0, none⟩)] 95) = W := ⟨_, rfl⟩
    have hst : Mod (fun k => k = b9) wq7 wl := by rw [← hwl]; exact Mod.alloc (fun k => k = b9) _ _
    have hb9 : Blk wl b9 95 [.pointer (some ⟨ps, 0, none⟩)] := by rw [← hwl, ← hb9e]; exact Blk.new wq7 95 [.pointer (some ⟨ps, 0, none⟩)]
    try rw [hwl]
    clear hwl
    clear qb3_0 lb3 qb5_0 lb5 qt_0 lt
    have hsl := HSR.out.keep hst (fun k hk e => by have h1 := HSR.out.hp.lt k hk; have h2 : k = b9 := e; omega) (fun e => by have h2 : rb = b9 := e; omega)
    have hmw : Mod (fun _ => False) wq5 wl := HMR.out.old hst (fun i hi => by have h1 := HMR.out.size; have h2 : i = b9 := hi; omega)
    replace HS := Lib.hid (HSP.out.step hmw)
    clear HSP
    replace HS := Lib.hid ((Ev.blk hb9).and HS.out)
    have hbb3 := (HS.out.now).2.2.2.2.1
    have qb3_0 := hbb3.cell 0 rfl
    have lb3 := hbb3.lt
    clear hbb3
    have hbb5 := (HS.out.now).2.2.2.1
    have qb5_0 := hbb5.cell 0 rfl
    have lb5 := hbb5.lt
    clear hbb5
    have hbt := (HS.out.now).2.2.2.2.2.1
    have qt_0 := hbt.cell 0 rfl
    have lt := hbt.lt
    clear hbt
    have hbb9 := (HS.out.now).1
    have qb9_0 := hbb9.cell 0 rfl
    have lb9 := hbb9.lt
    clear hbb9
    obtain ⟨F1, hF1⟩ : ∃ F, F0 = F := ⟨_, rfl⟩
    have hF19 : ¬ F1 b9 := fun hk => by rw [← hF1] at hk; have h1 := HSR.out.hp.lt b9 hk; omega
    rw [hF1] at hsl
    have hF1b : ∀ k, F1 k → B0 ≤ k := fun k hk => by rw [← hF1] at hk; exact HF0.out k hk
    have hF1l := hsl.hp.lt
    have hne : rb ≠ b9 := by omega
    have hrbl2 : rb < wl.heap.size := Nat.lt_of_lt_of_le hrbl hst.size
    have HSL := Lib.hid hsl
    have HF1 := Lib.hid (And.intro hF1b (And.intro hF19 hF1l))
    have HRB := Lib.hid (And.intro hrb (And.intro hrbl2 (fun e : rb = b9 => hne e)))
    clear hsl hF1b hF19 hF1l hrb hrbl hrbl2 hne hst hF1 HF0 HSR HMR hb9e hmw
    have hb0s := HB0.out
    have hKn : ∀ W, Mod (fun k => F1 k ∨ k = rb) wl W → TO W t p B C G ∧ Rd W 1 (.slice a n c) n (cl.map Value.bool) ∧ Blk W b3 29 [.pointer (some ⟨t, 0, none⟩)] ∧ Blk W b5 32 [.slice a n c] ∧ Blk W b9 95 [.pointer (some ⟨ps, 0, none⟩)] ∧ Mod (fun _ => False) w W := by
      intro W mW
      have hwl0 := (HS.out.now).2.2.2.2.2.2.2.2
      have hwl1 := (HS.out.now).2.1
      have hsz : w.heap.size ≤ B0 := by have h1 := HWB.out; omega
      have hm0 : Mod (fun _ => False) w W := hwl0.old mW (fun i hi => hi.elim (fun h => Nat.le_trans hsz (HF1.out.1 i h)) (fun h => by have := HRB.out.1; omega))
      have hap : ∀ b, b < B0 → ¬ (F1 b ∨ b = rb) := fun b hb h => h.elim (fun h => by have := HF1.out.1 b h; omega) (fun h => by have := HRB.out.1; omega)
      have hq3 := (HS.out.now).2.2.2.2.1
      have hq5 := (HS.out.now).2.2.2.1
      have hq9 := (HS.out.now).1
      exact ⟨H.out.keep hm0, (HCL.out).keep hm0 (fun _ _ e => e), hq3.keep mW (hap b3 (by have := HB35.out.1; omega)), hq5.keep mW (hap b5 (by have := HB35.out.2; omega)), hq9.keep mW (fun h => h.elim (fun h => HF1.out.2.1 h) (fun h => HRB.out.2.2 h.symm)), hm0⟩
    have HKN := Lib.hid hKn
    have HWL := Lib.hid ((HS.out.now).2.2.2.2.2.2.2.2).size
    clear hKn hb0s
    go_wp2_with fail
    clear qb3_0 lb3 qb5_0 lb5 qt_0 lt qb9_0 lb9
    obtain ⟨D, hD⟩ : ∃ d, d = wl.heap.size := ⟨_, rfl⟩
    obtain ⟨l, hl⟩ : ∃ d, d = wl.heap.size + 1 := ⟨_, rfl⟩
    have HDL := Lib.hid (And.intro hD hl)
    refine wp_rangeFunc_inv (gf := 54) (la := #[.pointer (some ⟨ps, 0, none⟩)]) (lb := #[]) rfl (enters_of Try.func54 (by kernel_rfl) rfl) rndV (fun _ => rfl) l D hD hl (JSt (webFrom G hm (ka : Int) cl) wl F1 l D ps rb) (JRd (webFrom G hm (ka : Int) cl) wl F1 l D ps rb) (JAf (webFrom G hm (ka : Int) cl) wl F1 l D ps rb) (JEn (webFrom G hm (ka : Int) cl) wl F1 l D ps rb) (fun _ _ o h => h.put o) (fun _ _ o h => h.put o) (fun _ o h => h.put o) ?start ?a1 ?assign ?iter ?body ?done
    case assign =>
      intro x W K hK
      have HK := Lib.hid hK
      clear hK
      dsimp only [rndV] at HK ⊢
      gi_wp2_with fail
      exact HK.out
    case start =>
      intro o o'
      have hma : Mod (fun _ => False) wl ((wl.alloc o).alloc o') := ((Mod.refl _ wl).thenAlloc o).thenAlloc o'
      refine ⟨_, _, F1, 0, ⟨HSL.out.keep hma (fun _ _ e => e) (fun e => e), ⟨fun e => by have := HF1.out.2.2 l e; omega, fun e => by have := HF1.out.2.2 D e; omega, by have := HRB.out.2.1; omega, by have := HRB.out.2.1; omega⟩, fun k hk => .inl hk, hma.mono (fun _ _ e => e.elim), by omega, by omega⟩, HDj.out⟩
    case iter =>
      intro R O W1 hJ hl1 hD1 hY
      exact settled_in (webFrom G hm (ka : Int) cl) wl F1 l D ps rb (by show G.E.length ≤ 1000; omega) (by constructor <;> omega) R O W1 hJ hl1 hD1 hY
    case done =>
      rintro W ⟨d, F, hM, hFx⟩ hdD
      obtain ⟨hto, hcl, hb3, hb5, hb9, hm0⟩ := HKN.out W hM.md
      obtain ⟨v9, mb9, hbs⟩ := hM.o.hp.cells
      have q9 := hb9.cell 0 rfl
      have qs := hbs.cell 0 rfl
      have HM := Lib.hid hM
      have HFx := Lib.hid hFx
      have HHD := Lib.hid hdD
      have HM0 := Lib.hid hm0
      clear hM hFx hdD hto hcl hb3 hb5 hb9 hm0 hbs hD hl
      go_wp2_with fail
      (try simp only [Exit.inBlock, Exit.then])
      refine rfPost_retD rfl HHD.out (results_tmp rfl _ _ _) ?_
      refine .inl ⟨by omega, _, rfl, ⟨rb, d, rfl, ?_, HFx.out⟩, HM0.out.old (Mod.putObj W D _) (fun i hi => by have h1 : i = D := hi; have h2 := HM.out.hl.2; have h3 := HWL.out; omega)⟩
      have hro := Own.keep HM.out.o.row (Mod.putObj W D (.deferred none)) (fun k hk e => HM.out.fl.2.2.2 ((show rb = k from (by simpa [Value.ownBlock] using hk)).trans e))
      exact Own.rebase hro (low_lit (by have h1 := HRB.out.1; have h2 := HWB.out; omega))
    case body =>
      clear hD hl
      rintro R O ⟨ke, far, nn⟩ W ⟨d, S, F, hM, hD, hdx, hem, hon⟩ hl1 hD1
      simp only at hD hdx hem hon
      dsimp only
      have hem2 : ke < G.E.length := hem
      have hM2 : Mem wl F1 l D ps rb G.E.length d S F W := hM
      clear hM hem
      obtain ⟨hto, hcl, hb3, hb5, hb9, hm0⟩ := HKN.out W hM2.md
      have hfar : 0 ≤ far ∧ far ≤ 33553920 := by have h1 := hD.c0; have h2 := hD.top; have h3 : ((webFrom G hm (ka : Int) cl).m : Int) = (G.E.length : Int) := rfl; omega
      have HM := Lib.hid hM2
      have HD := Lib.hid hD
      have HDX := Lib.hid hdx
      have HON := Lib.hid hon
      have HL1 := Lib.hid hl1
      have HD1 := Lib.hid hD1
      have HTO := Lib.hid hto
      have HHC := Lib.hid hcl
      clear hM2 hD hdx hon hl1 hD1 hm0
      have q3 := hb3.cell 0 rfl
      have q5 := hb5.cell 0 rfl
      have q9 := hb9.cell 0 rfl
      have qt := hto.blk.cell 0 rfl
      clear hto hcl
      have hlD : l < W.heap.size ∧ D < W.heap.size := ⟨(Array.getElem?_eq_some_iff.1 HL1.out).1, (Array.getElem?_eq_some_iff.1 HD1.out).1⟩
      clear hb3 hb5 hb9
      gi_wp2_with fail
      refine ⟨trivial, rfl, (CallsIn.inRound _ (callsIn_wide.2 (next_new t p B C G W HTO.out (ke : Int)))).mono ?_⟩
      rintro e W4 ⟨vr, rfl, ⟨⟨ar, cr, rfl, hrr⟩, hnew⟩, hm4⟩
      have hM4 := HM.out.keep hm4
      have hl4 := hm4.obj HL1.out (fun e => e)
      have hD4 := hm4.obj HD1.out (fun e => e)
      obtain ⟨ln, hln⟩ : ∃ k, (nxtR G (ke : Int)).length = k := ⟨_, rfl⟩
      rw [hln] at hrr hnew ⊢
      have hlnb : ln ≤ 512 := by rw [← hln]; exact Nat.le_trans (nxtR_len G (ke : Int)) hes
      have hrap : ∀ k, (Value.slice ar ln cr).ownBlock = some k → ¬ F k ∧ k ≠ rb ∧ k ≠ l ∧ k ≠ D := fun k hk => by
        have h0 := hnew k hk
        refine ⟨fun h => ?_, fun h => ?_, fun h => ?_, fun h => ?_⟩
        · have := HM.out.o.hp.lt k h; omega
        · have h1 := HM.out.md.size; have h2 := HRB.out.2.1; omega
        · have := (Array.getElem?_eq_some_iff.1 HL1.out).1; omega
        · have := (Array.getElem?_eq_some_iff.1 HD1.out).1; omega
      have HLN := Lib.hid hln
      clear hln hnew q3 q5 q9 qt HTO HHC
      have hD5 : Dij (webFrom G hm (ka : Int) cl) d S far (fun e b => b = ke ∧ (e : Int) ∈ (nxtR G (ke : Int)).drop 0) (fun _ => False) := HD.out.said (fun e b hr _ hp => ⟨hp, by rw [List.drop_zero]; have h1 : b = ke := hp; have h2 := hr.1; rw [h1] at h2; exact mem_nxt h2⟩) (fun _ _ _ h => h)
      gi_wp2_with fail
      gi_loopw [45] (fun i wr => ∃ (j : Nat) (S : List It) (F : Nat → Prop), j ≤ ln ∧ i = .int .i64 j ∧ Mem wl F1 l D ps rb G.E.length d S F wr ∧ Dij (webFrom G hm (ka : Int) cl) d S far (fun e b => b = ke ∧ (e : Int) ∈ (nxtR G (ke : Int)).drop j) (fun _ => False) ∧ Rd wr 1 (.slice ar ln cr) ln ((nxtR G (ke : Int)).map (Value.int .i64)) ∧ (∀ k, (Value.slice ar ln cr).ownBlock = some k → ¬ F k ∧ k ≠ rb ∧ k ≠ l ∧ k ≠ D) ∧ wr.heap[l]? = some R ∧ wr.heap[D]? = some O) (fun i _ => ln - (intOf i).toNat)
      case atStart => exact ⟨0, S, F, by omega, rfl, hM4, hD5, hrr, hrap, hl4, hD4⟩
      case round =>
        clear hM4 hD5 hrr hrap hl4 hD4 hm4
        obtain ⟨j, S, F, hj, rfl, hM, hDj, hrr, hrap, hl, hD⟩ := hrel
        obtain ⟨wo, hwo⟩ : ∃ x : World, x = wr := ⟨_, rfl⟩
        subst hwo
        obtain ⟨hto, hcl, hb3, hb5, hb9, hm0⟩ := HKN.out wo hM.md
        have q3 := hb3.cell 0 rfl
        have q5 := hb5.cell 0 rfl
        have q9 := hb9.cell 0 rfl
        have qt := hto.blk.cell 0 rfl
        have HTO := Lib.hid hto
        have HHC := Lib.hid hcl
        clear hto hcl hb3 hb5 hb9 hm0
        have hids := hM.o.ids
        have hfew := hDj.few hids.2
        have hsf : S.length ≤ 1000 := by have h3 : (webFrom G hm (ka : Int) cl).m = G.E.length := rfl; omega
        have HMr := Lib.hid hM
        have HDr := Lib.hid hDj
        have HRr := Lib.hid hrr
        have HRA := Lib.hid hrap
        have HLr := Lib.hid hl
        have HDD := Lib.hid hD
        have HID := Lib.hid hids
        clear hM hDj hrr hrap hl hD hids hfew
        by_cases hlt : j < ln
        case neg =>
          obtain rfl : j = ln := by omega
          have z0 : decide ((j : Int) < (j : Int)) = false := by simp
          gi_wp2_with fail
          exact ⟨⟨d, S, F, far, HMr.out, HDr.out.said (fun e b _ _ hp => by have h1 := hp.2; rw [List.drop_of_length_le (by rw [HLN.out]; exact Nat.le_refl _)] at h1; cases h1) (fun _ _ _ h => h), HON.out⟩, HLr.out, HDD.out⟩
        case pos =>
          have z0 : decide ((j : Int) < (ln : Int)) = true := by simp; omega
          have hjl : j < (nxtR G (ke : Int)).length := by rw [HLN.out]; exact hlt
          obtain ⟨kb, hkb, hkbe, hkt⟩ := nxtR_at G (ke : Int) j hjl
          obtain ⟨eb, eo, hpl, e0⟩ := rd1 HRr.out j hjl
          have hix := fun wx => run_indexS (P := Try.prog) wx 22 3 iI 1 Try.underlying22 hiI hsI ar ln cr j hlt (HRr.out.some_ (by omega))
          rw [hpl] at hix
          rw [hkb] at e0
          have HKB := Lib.hid hkb
          have HKT := Lib.hid hkt
          clear hpl hkb hkt
          obtain ⟨cb, hcb⟩ : ∃ b, clB cl (kb : Int) = b := ⟨_, rfl⟩
          have HCB := Lib.hid hcb
          gi_wp2_with fail
          refine ⟨trivial, rfl, (CallsIn.inRound _ (callsIn_wide.2 (closed_any wo a n c cl HN.out HHC.out (kb : Int)))).mono ?_⟩
          rintro e w' ⟨rfl, rfl⟩
          rw [hcb]
          clear hcb
          cases cb with
          | true =>
            gi_wp2_with fail
            go_roundw
            case rel => exact ⟨j + 1, S, F, hlt, by go_num, HMr.out, HDr.out.said (fun e b hr _ hp => ⟨hp.1, by
              have h := hp.2
              rw [List.drop_eq_getElem_cons hjl] at h
              rcases List.mem_cons.1 h with h1 | h1
              · rw [HKB.out] at h1; have h2 := hr.2; have h3 : e = kb := by omega
                rw [h3, HCB.out] at h2; cases h2
              · exact h1⟩) (fun _ _ _ h => h), HRr.out, HRA.out, HLr.out, HDD.out⟩
            case measure => simp [intOf]; omega
          | false =>
            obtain ⟨ex, hex⟩ : ∃ x, (eAt G (kb : Int)).1 = x := ⟨_, rfl⟩
            obtain ⟨ey, hey⟩ : ∃ x, (eAt G (kb : Int)).2.1 = x := ⟨_, rfl⟩
            obtain ⟨ez, hez⟩ : ∃ x, (eAt G (kb : Int)).2.2 = x := ⟨_, rfl⟩
            have hwz : 1 ≤ (eAt G (kb : Int)).2.2 ∧ (eAt G (kb : Int)).2.2 ≤ 65535 := edgeW G hm (kb : Int) (by omega)
            rw [hez] at hwz
            have hED := edge_ok p B C G wo HTO.out.go kb hkbe ex ey ez hex hey hez
            have HED := Lib.hid hED
            have HEZ := Lib.hid hez
            clear hED hez hex hey
            gi_wp2_with fail
            refine ⟨trivial, rfl, (CallsIn.inRound _ (callsIn_wide.2 (HED.out))).mono ?_⟩
            rintro e W2 ⟨rfl, hm2⟩
            obtain ⟨b12, hb12⟩ : ∃ b, W2.heap.size = b := ⟨_, rfl⟩
            obtain ⟨W3, hW3⟩ : ∃ x, W2.alloc (.cells #[.int .i64 ex, .int .i64 ey, .int .i64 ez] 43) = x := ⟨_, rfl⟩
            have hbe : Blk W3 b12 43 [.int .i64 ex, .int .i64 ey, .int .i64 ez] := by rw [← hW3, ← hb12]; exact Blk.new W2 _ [.int .i64 ex, .int .i64 ey, .int .i64 ez]
            have hm3 : Mod (fun _ => False) wo W3 := by rw [← hW3]; exact hm2.thenAlloc _
            have hM3 := HMr.out.keep hm3
            have hl3 := hm3.obj HLr.out (fun e => e)
            have hD3 := hm3.obj HDD.out (fun e => e)
            have hrr3 := HRr.out.keep hm3 (fun _ _ e => e)
            have HRr3 := Lib.hid hrr3
            have hbl12 := hbe.lt
            have qe2 := hbe.cell 2 rfl
            clear q3 q5 q9 qt HTO HHC HED hrr3 hbe
            obtain ⟨hto, hcl, hb3, hb5, hb9, hm0⟩ := HKN.out W3 hM3.md
            have q3 := hb3.cell 0 rfl
            have q5 := hb5.cell 0 rfl
            have q9 := hb9.cell 0 rfl
            have qt := hto.blk.cell 0 rfl
            have HTO := Lib.hid hto
            have HHC := Lib.hid hcl
            clear hto hcl hb3 hb5 hb9 hm0
            have HM3 := Lib.hid hM3
            have HL3 := Lib.hid hl3
            have HD3 := Lib.hid hD3
            clear hM3 hl3 hD3 hm3 hm2 e0 hix
            have hke : dAt d ke = far := HDX.out
            have hrl2 : (webFrom G hm (ka : Int) cl).rl kb ke := ⟨HKT.out, HCB.out⟩
            have hwt2 : (webFrom G hm (ka : Int) cl).wt kb ke = ez := HEZ.out
            have hrr2 := HDr.out.reach (pend' := fun e b => b = ke ∧ (e : Int) ∈ (nxtR G (ke : Int)).drop (j + 1)) (e := kb) (b := ke) HID.out.2 hrl2 (by omega) (by rw [hwt2]; omega) (fun e' b' h => by
              rw [List.drop_eq_getElem_cons hjl] at h
              rcases List.mem_cons.1 h.2 with h1 | h1
              · rw [HKB.out] at h1; exact .inr ⟨by omega, h.1⟩
              · exact .inl ⟨h.1, h1⟩)
            rw [hke, hwt2] at hrr2
            have hrc := reach_any ps rb G.E.length W3 d S F HM3.out.o kb hkbe (far + ez) (wf_i64 _ (by omega)) hsf (by omega)
            have HRC := Lib.hid hrc
            have HRR := Lib.hid hrr2
            clear hrc hrr2 hke hrl2 hwt2
            gi_wp2_with fail
            clear hW3 hb12
            refine ⟨trivial, rfl, (CallsIn.inRound _ (callsIn_wide.2 (HRC.out))).mono ?_⟩
            rintro e W5 ⟨rfl, F5, hS5, hA5⟩
            have hs5 : l < W3.heap.size ∧ D < W3.heap.size := ⟨(Array.getElem?_eq_some_iff.1 HL3.out).1, (Array.getElem?_eq_some_iff.1 HD3.out).1⟩
            have hM5 := HM3.out.aft hs5 hS5 hA5
            have hl5 := hA5.1.obj HL3.out HM3.out.fl.1
            have hD5 := hA5.1.obj HD3.out HM3.out.fl.2.1
            have hr5 := HRr3.out.keep hA5.1 (fun k hk => (HRA.out k hk).1)
            have ha5 : ∀ k, (Value.slice ar ln cr).ownBlock = some k → ¬ F5 k ∧ k ≠ rb ∧ k ≠ l ∧ k ≠ D := fun k hk => ⟨fun h => (hA5.2 k h).elim (HRA.out k hk).1 (fun h2 => absurd (show (nxtR G (ke : Int)).length = 0 from (by simpa using congrArg List.length (HRr3.out.lt hk h2))) (by omega)), (HRA.out k hk).2⟩
            have HX5 := Lib.hid (And.intro hM5 (And.intro hl5 (And.intro hD5 (And.intro hr5 ha5))))
            clear qe2
            clear hM5 hl5 hD5 hr5 ha5 hS5 hA5 q3 q5 q9 qt hs5
            gi_wp2_with fail
            go_roundw
            case rel => exact ⟨j + 1, _, F5, hlt, by go_num, HX5.out.1, HRR.out, HX5.out.2.2.2.1, HX5.out.2.2.2.2, HX5.out.2.1, HX5.out.2.2.1⟩
            case measure => simp [intOf]; omega
end Go.Proofs.Ytbjdjafkpldbnaa
