/- table's Drop, by contract. -/
import Derived.Test.YtfdmjnhhgcidbaaTb4
namespace Go.Proofs.Ytfdmjnhhgcidbaa
open Go.RowKit Mile
set_option maxRecDepth 100000
/-- Who leaves, of the first k peers that were said. -/
def lvF (es : Nat → TbE) (ps : List Int) (k : Nat) : Nat → Bool := fun x => (es x).isSome && decide ((x : Int) ∈ ps.take k)
/-- Who is left, when those that leave below j have left. -/
def dropTo (es : Nat → TbE) (lv : Nat → Bool) (j : Nat) : Nat → TbE := fun x => if x < j ∧ lv x = true then none else es x
def goneN (lv : Nat → Bool) (j : Nat) : List Nat := (List.range j).filter lv
theorem goneN_succ (lv : Nat → Bool) (j : Nat) : goneN lv (j + 1) = goneN lv j ++ if lv j then [j] else [] := by
  unfold goneN
  rw [List.range_succ, List.filter_append]
  congr 1
  by_cases h : lv j <;> simp [h]
theorem goneN_len (lv : Nat → Bool) (j : Nat) : (goneN lv j).length ≤ j := by
  unfold goneN
  have := List.length_filter_le lv (List.range j)
  simpa using this
theorem run_indexA16z {P : Program} (wx : World) (t e : TypeId) (i : TypeInfo) (ht : P.underlying t = some (.array 16 e)) (hi : P.info? e = some i) (hs : i.size = 1) (nb j : Nat) (hj : j < 16) :
    (Instr.indexAt t (.pointer (some ⟨nb, 0, none⟩)) (.int .i64 (j : Int))).run P wx = .ok (.pointer (some ⟨nb, j, none⟩)) wx := by
  have := run_indexA16 wx t e i ht hi hs nb 0 j hj
  rwa [Nat.zero_add] at this
theorem Tb.infoB : (Try.prog.info? 4).map (fun i => (i.zero, i.size, i.bytes)) = some (some (.bool false), 1, 1) := by kernel_rfl
def bV (lv : Nat → Bool) : List Value := row16 fun x => Value.bool (lv x)
theorem bV_set (lv : Nat → Bool) {k : Nat} (h : k < 16) (y : Bool) : (bV lv).set k (.bool y) = bV (updT lv k y) := by
  rcases below16 h with rfl | rfl | rfl | rfl | rfl | rfl | rfl | rfl | rfl | rfl | rfl | rfl | rfl | rfl | rfl | rfl <;> rfl
theorem mem_take_succ {ps : List Int} {k : Nat} (hk : k < ps.length) (x : Int) : x ∈ ps.take (k + 1) ↔ x ∈ ps.take k ∨ x = ps[k] := by
  rw [List.take_succ_eq_append_getElem hk, List.mem_append, List.mem_singleton]
theorem lvF_none (es : Nat → TbE) (ps : List Int) (k : Nat) (hk : k < ps.length) (h : ∀ x : Nat, x < 16 → ps[k] = (x : Int) → es x = none) : ∀ x, x < 16 → lvF es ps (k + 1) x = lvF es ps k x := fun x hx => by
  unfold lvF
  by_cases e : ps[k] = (x : Int)
  · rw [h x hx e]; rfl
  · congr 1
    rw [decide_eq_decide, mem_take_succ hk]
    exact ⟨fun y => y.elim id (fun z => absurd z.symm e), .inl⟩
theorem lvF_some (es : Nat → TbE) (ps : List Int) (k y : Nat) (hk : k < ps.length) (hy : ps[k] = (y : Int)) (h : (es y).isSome = true) : ∀ x, lvF es ps (k + 1) x = updT (lvF es ps k) y true x := fun x => by
  unfold lvF updT
  by_cases e : x = y
  · subst e
    rw [if_pos rfl, h, Bool.true_and]
    exact decide_eq_true ((mem_take_succ hk _).2 (.inr hy.symm))
  · rw [if_neg e]
    congr 1
    rw [decide_eq_decide, mem_take_succ hk, hy]
    exact ⟨fun z => z.elim id (fun u => absurd (by omega) e), .inl⟩
theorem bV_congr {f g : Nat → Bool} (h : ∀ x, x < 16 → f x = g x) : bV f = bV g := by
  unfold bV row16
  simp only [h 0 (by omega), h 1 (by omega), h 2 (by omega), h 3 (by omega), h 4 (by omega), h 5 (by omega), h 6 (by omega), h 7 (by omega), h 8 (by omega), h 9 (by omega), h 10 (by omega), h 11 (by omega), h 12 (by omega), h 13 (by omega), h 14 (by omega), h 15 (by omega)]
theorem dropTo_zero (es : Nat → TbE) (lv : Nat → Bool) : dropTo es lv 0 = es := by funext x; unfold dropTo; rw [if_neg (by omega)]
theorem dropTo_skip (es : Nat → TbE) (lv : Nat → Bool) {j : Nat} (h : lv j = false) : dropTo es lv (j + 1) = dropTo es lv j := by
  funext x; unfold dropTo
  by_cases e : x = j
  · subst e; simp [h]
  · have : (x < j + 1 ∧ lv x = true) ↔ (x < j ∧ lv x = true) := by constructor <;> (rintro ⟨a, b⟩; exact ⟨by omega, b⟩)
    simp only [this]
theorem dropTo_take (es : Nat → TbE) (lv : Nat → Bool) {j : Nat} (h : lv j = true) : dropTo es lv (j + 1) = updT (dropTo es lv j) j none := by
  funext x; unfold dropTo updT
  by_cases e : x = j
  · subst e; simp [h]
  · rw [if_neg e]
    have : (x < j + 1 ∧ lv x = true) ↔ (x < j ∧ lv x = true) := by constructor <;> (rintro ⟨a, b⟩; exact ⟨by omega, b⟩)
    simp only [this]
/-- Who is left of a Table when some leave. -/
def dropE (es : Nat → TbE) (ps : List Int) : Nat → TbE := fun x => if (x : Int) ∈ ps then none else es x
theorem dropTo_end (es : Nat → TbE) (ps : List Int) : ∀ x, x < 16 → dropTo es (lvF es ps ps.length) 16 x = dropE es ps x := fun x hx => by
  unfold dropTo dropE lvF
  rw [List.take_length]
  cases h : es x with
  | none => simp
  | some y => by_cases e : (x : Int) ∈ ps <;> simp [e, hx]
theorem TB.congr {w : World} {p M : Nat} {es es' : Nat → TbE} {gr : Nat → Int} (h : TB w p M es gr) (he : ∀ x, x < 16 → es x = es' x) : TB w p M es' gr := by
  refine ⟨h.m1, h.m16, ?_, fun x hx b ch e => h.ent x hx b ch (by rw [he x hx]; exact e), h.grb⟩
  have : tbC M es gr = tbC M es' gr := by
    unfold tbC row16
    simp only [he 0 (by omega), he 1 (by omega), he 2 (by omega), he 3 (by omega), he 4 (by omega), he 5 (by omega), he 6 (by omega), he 7 (by omega), he 8 (by omega), he 9 (by omega), he 10 (by omega), he 11 (by omega), he 12 (by omega), he 13 (by omega), he 14 (by omega), he 15 (by omega)]
  rw [← this]; exact h.blk
theorem TB.out {w : World} {p M : Nat} {es : Nat → TbE} {gr : Nat → Int} (h : TB w p M es gr) {j : Nat} (hj : j < 16) : TB (w.setCell ⟨p, 1 + j, none⟩ (.pointer none)) p M (updT es j none) gr ∧ Mod (fun k => k = p) w (w.setCell ⟨p, 1 + j, none⟩ (.pointer none)) := by
  have hset : Mod (fun k => k = p) w (w.setCell ⟨p, 1 + j, none⟩ (.pointer none)) := Mod.setCell _ _ _ rfl
  refine ⟨⟨h.m1, h.m16, ?_, fun x hx b ch e => ?_, h.grb⟩, hset⟩
  · have := h.blk.set (1 + j) (tbV none)
    rw [tbC_setE _ _ _ hj] at this
    exact this
  · by_cases hxj : x = j
    · subst hxj; rw [updT_at] at e; cases e
    · rw [updT_ne _ _ hxj] at e
      obtain ⟨h1, h2⟩ := h.ent x hx b ch e
      exact ⟨h1.keep hset h2, h2⟩
/-- What Drop tells, and leaves. -/
def DropP (p M : Nat) (es : Nat → TbE) (gr : Nat → Int) (ps : List Int) (w : World) (e : Ending) (w' : World) : Prop :=
  ∃ a c, e = .returned (.slice a (goneN (lvF es ps ps.length) 16).length c) ∧ World.ownsRow w' w.heap.size 90 1 (.slice a (goneN (lvF es ps ps.length) 16).length c) (goneN (lvF es ps ps.length) 16).length ((goneN (lvF es ps ps.length) 16).map fun x => tbV (es x)) ∧ TB w' p M (dropE es ps) gr ∧ Mod (fun k => k = p) w w'
set_option maxHeartbeats 16000000 in
theorem tbdrop_any {w : World} {p M : Nat} {es : Nat → TbE} {gr : Nat → Int} (h : TB w p M es gr) (a0 : Option Addr) (n c0 : Nat) (ps : List Int) (hn : ps.length = n) (hr : Rd w 1 (.slice a0 n c0) n (ps.map (Value.int .i64))) (hnb : n ≤ 1000000) :
    Calls Try.prog 38 #[.pointer (some ⟨p, 0, none⟩), .slice a0 n c0] w fun e w' => DropP p M es gr ps w e w' := by
  obtain ⟨iE, hiE, hzE, hsE, hbE⟩ := info_parts Tb.infoE
  obtain ⟨iI, hiI, hzI, hsI, hbI⟩ := info_parts Tb.infoI
  obtain ⟨iB, hiB, hzB, hsB, hbB⟩ := info_parts Tb.infoB
  have HT := Lib.hid h
  have HR := Lib.hid hr
  have HN := Lib.hid hn
  have hplt := h.blk.lt
  clear h hr hn
  obtain ⟨g, hg⟩ : ∃ y, w.heap.size = y := ⟨_, rfl⟩
  have HG := Lib.hid hg
  rw [hg] at hplt
  obtain ⟨wA, hwA⟩ : ∃ y, w.alloc (.cells #[.bool false, .bool false, .bool false, .bool false, .bool false, .bool false, .bool false, .bool false, .bool false, .bool false, .bool false, .bool false, .bool false, .bool false, .bool false, .bool false] 158) = y := ⟨_, rfl⟩
  have hgA : Blk wA g 158 (bV (lvF es ps 0)) := by
    have h0 : bV (lvF es ps 0) = bV (fun _ => false) := bV_congr fun x _ => by unfold lvF; simp
    rw [h0, ← hwA, ← hg]
    exact Blk.new w 158 (bV (fun _ => false))
  have HA := Lib.hid (show Mod (fun _ => False) w wA by rw [← hwA]; exact Mod.alloc _ _ _)
  have HGA := Lib.hid hgA
  clear hgA
  go_enter Try.func38, Try.ntmps38
  go_upto_region 2 with fail
  (try rw [hwA])
  (try rw [hg])
  clear hwA hg
  go_wp2_with fail
  go_loopw [13] (fun iv wr => ∃ j : Nat, j ≤ n ∧ iv = .int .i64 j ∧ Blk wr g 158 (bV (lvF es ps j)) ∧ Mod (fun k => k = g) wA wr) (fun iv _ => n - (intOf iv).toNat)
  case atStart => exact ⟨0, by omega, rfl, HGA.out, Mod.refl _ _⟩
  case round =>
    obtain ⟨j, hj, rfl, hgb, hmr⟩ := hrel
    obtain ⟨wo, hwo⟩ : ∃ x : World, x = wr := ⟨_, rfl⟩
    subst hwo
    have hmw : Mod (fun _ => False) w wo := HA.out.old hmr (fun k hk => by rw [hk, HG.out]; exact Nat.le_refl _)
    have HMW := Lib.hid hmw
    have HGB := Lib.hid hgb
    have HMR := Lib.hid hmr
    have HTO := Lib.hid (HT.out.later hmw)
    clear hgb hmr
    by_cases hlt : j < n
    case pos =>
      have z0 : decide ((j : Int) < (n : Int)) = true := by simp; omega
      have z1 : decide (j < n) = true := by simpa using hlt
      have hjl : j < ps.length := by have := HN.out; omega
      have hro := HR.out.keep hmw (fun _ _ e => e)
      obtain ⟨eb, eo, hpl, e0⟩ := rd1 hro j hjl
      have hix := fun wx => run_indexS (P := Try.prog) wx 70 3 iI 1 Try.underlying70 hiI hsI a0 n c0 j hlt (hro.some_ (by omega))
      rw [hpl] at hix
      obtain ⟨v, hv⟩ : ∃ v, ps[j] = v := ⟨_, rfl⟩
      rw [hv] at e0
      have HV := Lib.hid hv
      clear hpl hv hmw hro
      by_cases hin : ∃ y : Nat, y < 16 ∧ v = (y : Int) ∧ (es y).isSome = true
      case pos =>
        obtain ⟨y, hy, rfl, hsome⟩ := hin
        obtain ⟨x, hx⟩ := Option.isSome_iff_exists.1 hsome
        obtain ⟨b, ch⟩ := x
        have HOF := Lib.hid (tbof_any HTO.out y hy)
        rw [hx] at HOF
        replace HOF : Hid (Calls Try.prog 75 #[.pointer (some ⟨p, 0, none⟩), .int .i64 (y : Int)] wo fun e w' => e = .returned (.pointer (some ⟨b, 0, none⟩)) ∧ wo = w') := HOF
        have HSO := Lib.hid hsome
        have hixB := fun wx => run_indexA16z (P := Try.prog) wx 158 4 iB Try.underlying158 hiB hsB g y hy
        have cy := HGB.out.cell y (show (bV (lvF es ps j))[y]? = some (.bool (lvF es ps j y)) from row16_at (fun x => Value.bool (lvF es ps j x)) hy)
        have fy := HGB.out.free y
        have lg := HGB.out.lt
        clear hx hsome
        go_wp2_with fail
        refine HOF.out.mono ?_
        rintro e w' ⟨rfl, rfl⟩
        go_wp2_with fail
        go_roundw
        case rel =>
          refine ⟨j + 1, hlt, by go_num, ?_, HMR.out.trans (Mod.setCell (F := fun k => k = g) _ ⟨g, y, none⟩ _ rfl) (fun _ _ e => e) (fun _ _ e => e)⟩
          have h2 := HGB.out.set y (.bool true)
          rw [bV_set _ hy] at h2
          rw [bV_congr (fun x _ => lvF_some es ps j y hjl HV.out HSO.out x)]
          exact h2
        case measure => simp [intOf]; omega
      case neg =>
        have hno : ∀ x : Nat, x < 16 → ps[j] = (x : Int) → es x = none := fun x hx e => by
          cases hes : es x with
          | none => rfl
          | some y => exact absurd ⟨x, hx, by rw [← HV.out]; exact e, by rw [hes]; rfl⟩ hin
        have HLV := Lib.hid (bV_congr (lvF_none es ps j hjl hno))
        have HOF : Hid (Calls Try.prog 75 #[.pointer (some ⟨p, 0, none⟩), .int .i64 v] wo fun e w' => e = .returned (.pointer none) ∧ wo = w') := Lib.hid (by
          by_cases hv : 0 ≤ v ∧ v < 16
          · obtain ⟨y, rfl⟩ := Int.eq_ofNat_of_zero_le hv.1
            have h3 := tbof_any HTO.out y (by omega)
            rw [hno y (by omega) HV.out] at h3
            exact h3
          · exact tbof_no v hv)
        clear hin hno
        go_wp2_with fail
        refine HOF.out.mono ?_
        rintro e w' ⟨rfl, rfl⟩
        go_wp2_with fail
        go_roundw
        case rel => exact ⟨j + 1, hlt, by go_num, by rw [HLV.out]; exact HGB.out, HMR.out⟩
        case measure => simp [intOf]; omega
    case neg =>
      have z0 : decide ((j : Int) < (n : Int)) = false := by simp; omega
      have z1 : decide (j < n) = false := by simpa using hlt
      obtain rfl : j = n := by omega
      have hgb := HGB.out
      obtain ⟨lv, hlv⟩ : ∃ f, lvF es ps j = f := ⟨_, rfl⟩
      rw [hlv] at hgb
      have HLV := Lib.hid hlv
      have HLS : Hid (∀ x, lv x = true → (es x).isSome = true) := Lib.hid (fun x hx => by rw [← HLV.out] at hx; unfold lvF at hx; simp at hx; exact hx.1)
      have c0 : wo.cell? ⟨g, 0, none⟩ = some (.bool (lv 0)) := hgb.cell 0 rfl
      have c1 : wo.cell? ⟨g, 1, none⟩ = some (.bool (lv 1)) := hgb.cell 1 rfl
      have c2 : wo.cell? ⟨g, 2, none⟩ = some (.bool (lv 2)) := hgb.cell 2 rfl
      have c3 : wo.cell? ⟨g, 3, none⟩ = some (.bool (lv 3)) := hgb.cell 3 rfl
      have c4 : wo.cell? ⟨g, 4, none⟩ = some (.bool (lv 4)) := hgb.cell 4 rfl
      have c5 : wo.cell? ⟨g, 5, none⟩ = some (.bool (lv 5)) := hgb.cell 5 rfl
      have c6 : wo.cell? ⟨g, 6, none⟩ = some (.bool (lv 6)) := hgb.cell 6 rfl
      have c7 : wo.cell? ⟨g, 7, none⟩ = some (.bool (lv 7)) := hgb.cell 7 rfl
      have c8 : wo.cell? ⟨g, 8, none⟩ = some (.bool (lv 8)) := hgb.cell 8 rfl
      have c9 : wo.cell? ⟨g, 9, none⟩ = some (.bool (lv 9)) := hgb.cell 9 rfl
      have c10 : wo.cell? ⟨g, 10, none⟩ = some (.bool (lv 10)) := hgb.cell 10 rfl
      have c11 : wo.cell? ⟨g, 11, none⟩ = some (.bool (lv 11)) := hgb.cell 11 rfl
      have c12 : wo.cell? ⟨g, 12, none⟩ = some (.bool (lv 12)) := hgb.cell 12 rfl
      have c13 : wo.cell? ⟨g, 13, none⟩ = some (.bool (lv 13)) := hgb.cell 13 rfl
      have c14 : wo.cell? ⟨g, 14, none⟩ = some (.bool (lv 14)) := hgb.cell 14 rfl
      have c15 : wo.cell? ⟨g, 15, none⟩ = some (.bool (lv 15)) := hgb.cell 15 rfl
      clear hgb hlv hmw
      go_wp2_with fail
      have hiv : ∀ (k : Nat) (_ : k < 16) (wx : World), (Instr.index 158 (.agg #[.bool (lv 0), .bool (lv 1), .bool (lv 2), .bool (lv 3), .bool (lv 4), .bool (lv 5), .bool (lv 6), .bool (lv 7), .bool (lv 8), .bool (lv 9), .bool (lv 10), .bool (lv 11), .bool (lv 12), .bool (lv 13), .bool (lv 14), .bool (lv 15)]) (.int .i64 (k : Int))).run Try.prog wx = .ok (.bool (lv k)) wx := fun k hk wx => run_indexV16 (P := Try.prog) wx 158 4 iB Try.underlying158 (fun wy => by simp [isAgg, run_underlying Try.underlying4]) hiB hsB (fun x => .bool (lv x)) k hk
      have HIV := Lib.hid hiv
      clear hiv c0 c1 c2 c3 c4 c5 c6 c7 c8 c9 c10 c11 c12 c13 c14 c15
      go_loopw [8, 25] (fun v iv wr => ∃ (q k : Nat) (a : Option Addr) (c : Nat), q ≤ 16 ∧ iv = .int .i64 q ∧ v = .slice a k c ∧ (goneN lv q).length = k ∧ World.ownsRow wr w.heap.size 90 1 (.slice a k c) k ((goneN lv q).map fun x => tbV (es x)) ∧ TB wr p M (dropTo es lv q) gr ∧ Mod (fun k => k = p) w wr) (fun _ iv _ => 16 - (intOf iv).toNat)
      case atStart => exact ⟨0, 0, none, 0, by omega, rfl, rfl, rfl, World.ownsRow_nil _ _ _ _, by rw [dropTo_zero]; exact HTO.out, HMW.out.mono (fun _ _ e => e.elim)⟩
      case round =>
        obtain ⟨q, k, a, c, hq, rfl, rfl, hk, ho, ht, hmr⟩ := hrel
        obtain ⟨wp, hwp⟩ : ∃ x : World, x = wr := ⟨_, rfl⟩
        subst hwp
        have HO := Lib.hid ho
        have HMP := Lib.hid hmr
        have HK := Lib.hid hk
        have HTP := Lib.hid ht
        have hkb : k ≤ 16 := by have := goneN_len lv q; omega
        clear ho hmr hk ht
        by_cases hlq : q < 16
        case neg =>
          obtain rfl : q = 16 := by omega
          have z2 : decide (((16 : Nat) : Int) < 16) = false := by simp
          go_wp2_with fail
          go_ret
          have hk := HK.out
          subst hk
          have hl := HLV.out
          subst hl
          have hps := HN.out
          unfold DropP
          rw [hps]
          refine ⟨a, c, rfl, HO.out, HTP.out.congr (fun x hx => ?_), HMP.out⟩
          rw [← hps]
          exact dropTo_end es ps x hx
        case pos =>
          have z2 : decide ((q : Int) < 16) = true := by simp; omega
          have z3 : decide (q < 16) = true := by simpa using hlq
          have hixq := HIV.out q hlq
          cases hlvq : lv q with
          | false =>
            rw [hlvq] at hixq
            have HGN : Hid (goneN lv (q + 1) = goneN lv q) := Lib.hid (by rw [goneN_succ, hlvq]; simp)
            have HDT := Lib.hid (dropTo_skip es lv hlvq)
            clear hlvq
            go_wp2_with fail
            go_roundw
            case rel => exact ⟨q + 1, k, a, c, hlq, by go_num, rfl, by rw [HGN.out]; exact HK.out, by rw [HGN.out]; exact HO.out, by rw [HDT.out]; exact HTP.out, HMP.out⟩
            case measure => simp [intOf]; omega
          | true =>
            rw [hlvq] at hixq
            obtain ⟨x, hx⟩ := Option.isSome_iff_exists.1 (HLS.out q hlvq)
            obtain ⟨b, ch⟩ := x
            have HGN : Hid (goneN lv (q + 1) = goneN lv q ++ [q]) := Lib.hid (by rw [goneN_succ, hlvq]; simp)
            have HDT := Lib.hid (dropTo_take es lv hlvq)
            have HEV : Hid (tbV (es q) = .pointer (some ⟨b, 0, none⟩)) := Lib.hid (by rw [hx]; rfl)
            have ce := HTP.out.cellE hlq
            have hdq : dropTo es lv q q = some (b, ch) := by unfold dropTo; rw [if_neg (by omega)]; exact hx
            rw [hdq] at ce
            replace ce : wp.cell? ⟨p, 1 + q, none⟩ = some (.pointer (some ⟨b, 0, none⟩)) := ce
            have hixE := fun wx => run_indexA16 (P := Try.prog) wx 149 90 iE Try.underlying149 hiE hsE p 1 q hlq
            clear hlvq hx hdq
            go_upto_region 14 with (at_builtin; refine wpList_append_any rfl (.tmp 30) (.tmp 37) 94 rfl 90 iE (.pointer none) 1 8 Try.underlying94 hiE hzE hsE hbE rfl (by decide) _ k _ rfl (World.ownsRow.alloc (Own.base HO.out (Nat.zero_le _)) _) _ 1 [.pointer (some ⟨b, 0, none⟩)] rfl (Rd.lit 90 [.pointer (some ⟨b, 0, none⟩)] (0, 0) wp.heap.size 1 rfl rfl (by decide)) (by intro u hu; simp at hu; subst hu; rfl) (by unfold maxLen; omega) (by omega) ?_; intro v4 w4 hap)
            obtain ⟨a4, c4, rfl⟩ := hap.form
            have hsz := HMP.out.size
            have ho4 := hap.own
            have lo4 := hap.low (B := w.heap.size) (by simp; omega) (fun k hk => (HO.out.lt k hk).1)
            have hmA : Mod (fun i => (Value.slice a k c).ownBlock = some i) wp w4 := (Mod.alloc (fun _ => False) wp (.cells #[.pointer (some ⟨b, 0, none⟩)] 90)).trans hap.mod (fun _ _ e => e.elim) (fun _ _ e => e)
            have hrow : ∀ i, (Value.slice a k c).ownBlock = some i → w.heap.size ≤ i := fun i hi => (HO.out.lt i hi).1
            have htt := HO.out
            have ht4 : TB w4 p M (dropTo es lv q) gr := HTP.out.keep hmA (fun e => by have h1 := hrow p e; have h2 := HG.out; omega) (fun i hi b' ch' e f => by
              have h3 := (HTP.out.ent i hi b' ch' e).1
              rcases htt.2 with ⟨e1, _⟩ | ⟨g2, cap, cur, e1, _, hb2, _⟩
              · rw [e1] at f; cases f
              · rw [e1] at f
                obtain rfl : g2 = b' := Option.some.inj f
                unfold Blk at h3
                rw [hb2] at h3
                injection h3 with h3
                injection h3 with _ h3 _
                exact absurd h3 (by decide))
            have hm4 : Mod (fun k => k = p) w w4 := HMP.out.trans hmA (fun _ _ e => e) (fun i hi e => by have := hrow i e; omega)
            have HO5 := Lib.hid (Own.rebase ho4 lo4)
            have HM4 := Lib.hid hm4
            have HT4 := Lib.hid ht4
            have cw := ht4.cellE hlq
            have fw := ht4.blk.free (1 + q)
            have lw := ht4.blk.lt
            clear hap ho4 lo4 hm4 hsz ht4 hmA hrow htt ce
            go_wp2_with fail
            obtain ⟨ht5, hm5⟩ := HT4.out.out hlq
            go_roundw
            case rel => exact ⟨q + 1, k + 1, a4, c4, hlq, by go_num, rfl, by rw [HGN.out, List.length_append, HK.out]; rfl, by rw [HGN.out, List.map_append]; simp only [List.map_cons, List.map_nil, HEV.out]; exact Own.keep HO5.out hm5 (fun i hi e => by have h1 := (HO5.out.lt i hi).1; have h2 := HG.out; omega), by rw [HDT.out]; exact ht5, HM4.out.trans hm5 (fun _ _ e => e) (fun _ _ e => e)⟩
            case measure => simp [intOf]; omega
end Go.Proofs.Ytfdmjnhhgcidbaa
