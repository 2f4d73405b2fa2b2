/- milepostref24.Stroll by contract. -/
import Derived.Test.YtgiojfihgdifbaaStrollP
import Derived.Test.YtgiojfihgdifbaaRNext
import Derived.Test.YtgiojfihgdifbaaTown1
import Derived.Test.YtgiojfihgdifbaaIRow
import Derived.Deep.DeepCutAuto
import Derived.Deep.CutBlock
namespace Go.Proofs.Ytgiojfihgdifbaa
open Go.RowKit Mile
set_option maxRecDepth 100000
theorem round24_e {k n r : Int} (h : k % n = r) (w : World) (h1 : 0 < n) (h2 : n ≤ 4611686018427387904) : Calls Try.prog 36 #[.int .i64 k, .int .i64 n] w fun e w' => e = .returned (.int .i64 r) ∧ w = w' :=
  (round24_q h w h1 h2).mono fun _ _ ⟨a, b⟩ => ⟨a, b.symm⟩

set_option maxHeartbeats 16000000 in
theorem stroll_any (G : GD) (w : World) (a1 : Option Addr) (n1 d1 : Nat) (a2 : Option Addr) (n2 d2 : Nat) (a3 : Option Addr) (n3 d3 : Nat) (h : GV w a1 n1 d1 a2 n2 d2 a3 n3 d3 G) (q2 : n2 ≤ 100000) (q3 : n3 ≤ 100000) (e0 : Int) (a : Option Addr) (n c : Nat) (xs : List Int) (hn : xs.length = n) (hr : Rd w 1 (.slice a n c) n (xs.map (Value.int .i64))) (hb : n ≤ 100000) :
    Calls Try.prog 23 #[.agg #[.slice a1 n1 d1, .slice a2 n2 d2, .slice a3 n3 d3], .int .i64 e0, .slice a n c] w fun e w' => ∃ v, e = .returned v ∧ IRow (strollL G e0 xs) v w' ∧ Mod (fun _ => False) w w' := by
  obtain ⟨iI, hiI, hzI, hsI, hbI⟩ := info_parts GR.infoI
  have HN := Lib.hid hn
  have he := Lib.hid h.e
  clear hn
  have HS : Hid (Ev (Mod (fun _ => False) w) w) := Lib.hid (Ev.mod w)
  replace HS := Lib.hid ((Ev.gv h).and HS.out)
  replace HS := Lib.hid ((Ev.rd hr).and HS.out)
  clear h hr
  go_enter Try.func23, Try.ntmps23
  go_upto_region 1 with fail
  obtain ⟨bx, hbx⟩ : ∃ b, w.heap.size = b := ⟨_, rfl⟩
  obtain ⟨wq1, hwq1⟩ : ∃ W, World.alloc w (.cells #[.slice a1 n1 d1, .slice a2 n2 d2, .slice a3 n3 d3] 29) = W := ⟨_, rfl⟩
  have hBbx : Blk wq1 bx 29 [.slice a1 n1 d1, .slice a2 n2 d2, .slice a3 n3 d3] := by rw [← hwq1, ← hbx]; exact Blk.new _ 29 [.slice a1 n1 d1, .slice a2 n2 d2, .slice a3 n3 d3]
  have hzbx : wq1.heap.size = bx + 1 := by rw [← hwq1, ← hbx]; exact heap_size_alloc _ _
  replace HS := Lib.hid (HS.out.step (w' := wq1) (by rw [← hwq1]; exact Mod.alloc _ _ _))
  replace HS := Lib.hid ((Ev.blk hBbx).and HS.out)
  try rw [hwq1]
  try rw [hbx]
  clear hzbx hBbx hbx hwq1
  have hbbx := (HS.out.now).1
  have qbx_0 := hbbx.cell 0 rfl
  have qbx_1 := hbbx.cell 1 rfl
  have qbx_2 := hbbx.cell 2 rfl
  have lbx := hbbx.lt
  clear hbbx
  obtain ⟨B0, hB0⟩ : ∃ n, wq1.heap.size = n := ⟨_, rfl⟩
  have HB0 := Lib.hid hB0
  clear hB0
  replace HS := Lib.hid ((Ev.mod wq1).and HS.out)
  go_wp2_with fail
  clear qbx_0 qbx_1 qbx_2 lbx
  go_loopw [1, 7, 8] (fun ev v i wr => ∃ (j : Nat) (ek : Int), j ≤ n ∧ i = .int .i64 j ∧ ev = .int .i64 ek ∧ ek = lastD e0 (strollL G e0 (xs.take j)) ∧ (strollL G e0 (xs.take j)).length = j ∧ Mod (fun _ => False) wq1 wr ∧ World.ownsRow wr B0 3 1 v j ((strollL G e0 (xs.take j)).map (Value.int .i64))) (fun _ _ i _ => n - (intOf i).toNat)
  case atStart => exact ⟨0, e0, by omega, rfl, rfl, rfl, rfl, Mod.refl _ _, World.ownsRow_nil _ _ _ _⟩
  case round =>
    obtain ⟨j, ek, hj, rfl, rfl, hek, hsl, hmr, hown⟩ := hrel
    obtain ⟨wo, hwo⟩ : ∃ x : World, x = wr := ⟨_, rfl⟩
    subst hwo
    replace HS := Lib.hid (HS.out.step hmr)
    clear hmr
    have hbbx := (HS.out.now).2.1
    have qbx_0 := hbbx.cell 0 rfl
    have qbx_1 := hbbx.cell 1 rfl
    have qbx_2 := hbbx.cell 2 rfl
    have lbx := hbbx.lt
    clear hbbx
    obtain ⟨av, cv, rfl⟩ := own_form hown
    have HO := Lib.hid hown
    have HEK := Lib.hid hek
    have HSL := Lib.hid hsl
    clear hown hek hsl
    by_cases hlt : j < n
    case pos =>
      have z0 : decide ((j : Int) < (n : Int)) = true := by simp; omega
      have hjl : j < xs.length := by rw [HN.out]; exact hlt
      have HTL : Hid ((xs.take j).length = j) := Lib.hid (by rw [List.length_take]; omega)
      go_wp2_with fail
      refine (r4next_any G _ a1 n1 d1 a2 n2 d2 a3 n3 d3 ((HS.out.now).2.2.2.1) q2 q3 ek).mono ?_
      rintro e wq2 ⟨v', rfl, ⟨an, cn, rfl, hx'⟩, hmm⟩
      have HMT := Lib.hid hmm
      replace HS := Lib.hid (HS.out.step hmm)
      clear hmm
      replace HS := Lib.hid ((Ev.rd hx').and HS.out)
      clear hx'
      clear qbx_0 qbx_1 qbx_2 lbx
      obtain ⟨ln, hln⟩ : ∃ q, (nxtR G ek).length = q := ⟨_, rfl⟩
      rw [hln] at HS ⊢
      have hl1 : ln ≤ 100000 := by rw [← hln]; have := nxtR_len G ek; have := he.out; omega
      have HLN := Lib.hid hln
      clear hln
      have HO2 := Lib.hid (Own.keep HO.out HMT.out (fun _ _ e => e))
      by_cases h0 : ln = 0
      case pos =>
        subst h0
        have hstop : strollL G e0 xs = strollL G e0 (xs.take j) := by have h1 := stroll_stop G e0 (xs.take j) (xs.drop j) (by rw [HSL.out, HTL.out]) (by rw [← HEK.out]; exact HLN.out); rw [List.take_append_drop] at h1; exact h1
        have HST := Lib.hid hstop
        clear hstop
        go_wp2_with fail
        go_ret
        refine ⟨_, rfl, ⟨av, cv, ?_, ?_⟩, (HS.out.now).2.2.2.2.2⟩
        · rw [HST.out, HSL.out]; rfl
        · rw [HST.out, HSL.out]; exact Rd.ofOwn HO2.out
      case neg =>
        have z1 : ((ln : Int) == 0) = false := beq_eq_false_iff_ne.2 (by omega)
        obtain ⟨x, HX0⟩ : ∃ qz, xs[j] = qz := ⟨_, rfl⟩
        have HX := Lib.hid HX0
        clear HX0
        obtain ⟨eb, eo, hpl, e0⟩ := rd1 (HS.out.now).2.2.2.1 j hjl
        have hix := fun wx => run_indexS (P := Try.prog) wx 22 3 iI 1 Try.underlying22 hiI hsI a n c j hlt ((HS.out.now).2.2.2.1.some_ (by have := hlt; omega))
        rw [hpl] at hix
        have HIe := Lib.hid hix
        clear hix hpl
        rw [HX.out] at e0
        replace HS := Lib.hid ((Ev.cell e0).and HS.out)
        clear e0
        obtain ⟨r, hr0, hrm, hre⟩ := pick_mem G ek x (by rw [HLN.out]; exact h0)
        obtain ⟨p, HP0⟩ : ∃ qz, pickS G ek x = qz := ⟨_, rfl⟩
        have HP := Lib.hid HP0
        clear HP0
        rw [HP.out] at hre
        rw [HLN.out] at hrm
        have hrl : r < ln := by rw [← HLN.out]; exact hr0
        have HRE := Lib.hid hre
        have HRM := Lib.hid hrm
        clear hre hrm
        obtain ⟨fb, fo, hpl, e0⟩ := rd1 (HS.out.now).2.1 r hr0
        have hix := fun wx => run_indexS (P := Try.prog) wx 22 3 iI 1 Try.underlying22 hiI hsI an ln cn r hrl ((HS.out.now).2.1.some_ (by have := hrl; omega))
        rw [hpl] at hix
        have HIf := Lib.hid hix
        clear hix hpl
        rw [HRE.out] at e0
        replace HS := Lib.hid ((Ev.cell e0).and HS.out)
        clear e0
        have qe := (HS.out.now).2.1
        have hix := HIe.out
        have qf := (HS.out.now).1
        have hiy := HIf.out
        have hz : B0 ≤ wq2.heap.size := by rw [← HB0.out]; exact ((HS.out.now).2.2.2.1).size
        go_wp2_with (first | (go_at_call 36; refine (round24_e HRM.out _ (by omega) (by omega)).mono ?_; rintro e wz ⟨rfl, rfl⟩) | (at_builtin; refine wpList_append_any rfl (.tmp 32) (.tmp 34) 22 rfl 3 iI (.int .i64 0) 1 8 Try.underlying22 hiI hzI hsI hbI rfl (by decide) _ j _ rfl (World.ownsRow.alloc (Own.base HO2.out (Nat.zero_le _)) _) _ 1 [.int .i64 p] rfl (Rd.one _ _ _) (by simp [Value.oneCell']) (by unfold maxLen; omega) (by omega) ?_; intro v4 w4 hap; obtain ⟨a4, c4, rfl⟩ := hap.form; have ho4 := hap.own; have lo4 := hap.low (B := B0) (by simp; omega) (fun k hk => (HO2.out.lt k hk).1); have hm4 := hap.modOld (((HS.out.now).2.2.2.1).thenAlloc _) (fun k hk => by rw [HB0.out]; exact (HO2.out.lt k hk).1); have HO4 := Lib.hid (Own.rebase ho4 lo4); have HM4 := Lib.hid hm4; clear hap ho4 lo4 hm4))
        go_roundw
        case rel =>
          have hs : strollL G e0 (xs.take (j + 1)) = strollL G e0 (xs.take j) ++ [p] := by
            rw [take_snoc' xs j hjl, stroll_snoc G e0 (xs.take j) _ (by rw [HSL.out, HTL.out]) (by rw [← HEK.out, HLN.out]; exact h0), ← HEK.out, HX.out, HP.out]
          refine ⟨j + 1, p, hlt, by go_num, rfl, by rw [hs, lastD_snoc], by rw [hs, List.length_append, HSL.out]; rfl, HM4.out, ?_⟩
          rw [hs, List.map_append]
          exact HO4.out
        case measure => simp [intOf]; omega
    case neg =>
      obtain rfl : j = n := by omega
      have z0 : decide ((j : Int) < (j : Int)) = false := by simp
      have ht : xs.take j = xs := List.take_of_length_le (by rw [HN.out]; exact Nat.le_refl _)
      have h1 := HO.out
      have h2 := HSL.out
      rw [ht] at h1 h2
      have HO5 := Lib.hid h1
      have HS5 := Lib.hid h2
      clear ht h1 h2
      go_wp2_with fail
      go_ret
      refine ⟨_, rfl, ⟨av, cv, ?_, ?_⟩, (HS.out.now).2.2.2.2⟩
      · rw [HS5.out]; rfl
      · rw [HS5.out]; exact Rd.ofOwn HO5.out
end Go.Proofs.Ytgiojfihgdifbaa
