/- Strolls, as plain lists. -/
import Derived.Test.YtagmnkobigecnaaWalkP
import Derived.Test.YtagmnkobigecnaaRNext
import Derived.Test.YtagmnkobigecnaaTown1
import Derived.Test.YtagmnkobigecnaaIRow
import Derived.Deep.DeepCutAuto
import Derived.Deep.CutBlock
import Derived.Test.YtagmnkobigecnaaBase2
namespace Go.Proofs.Ytagmnkobigecnaa
open Go.RowKit Mile
/-- The edge that a number picks behind e. -/
def pickS (G : GD) (e x : Int) : Int := (nxtR G e).getD (x % ((nxtR G e).length : Int)).toNat 0
def strollL (G : GD) : Int → List Int → List Int
  | _, [] => []
  | e, x :: l => if (nxtR G e).length = 0 then [] else pickS G e x :: strollL G (pickS G e x) l
theorem stroll_len (G : GD) : ∀ (e : Int) (l : List Int), (strollL G e l).length ≤ l.length
  | _, [] => by simp [strollL]
  | e, x :: l => by
    have := stroll_len G (pickS G e x) l
    simp only [strollL]; split <;> simp <;> omega
theorem lastD_cons (f x : Int) (a : List Int) : lastD f (x :: a) = lastD x a := by
  have := lastD_append f [x] a
  rwa [show lastD f [x] = x from lastD_snoc f [] x] at this
/-- On by one, where it has not stopped. -/
theorem stroll_snoc (G : GD) : ∀ (e : Int) (l : List Int) (x : Int), (strollL G e l).length = l.length → (nxtR G (lastD e (strollL G e l))).length ≠ 0 →
    strollL G e (l ++ [x]) = strollL G e l ++ [pickS G (lastD e (strollL G e l)) x]
  | e, [], x, _, h => by simp only [strollL, lastD, List.getLast?_nil, Option.getD_none] at h ⊢; simp [strollL, h]
  | e, y :: l, x, hl, h => by
    by_cases h0 : (nxtR G e).length = 0
    · simp [strollL, h0] at hl
    · simp only [strollL, if_neg h0, List.length_cons, lastD_cons] at hl h
      simp only [List.cons_append, strollL, if_neg h0, lastD_cons]
      rw [stroll_snoc G _ l x (by omega) h]
/-- Where it has stopped it stays. -/
theorem stroll_stop (G : GD) : ∀ (e : Int) (l m : List Int), (strollL G e l).length = l.length → (nxtR G (lastD e (strollL G e l))).length = 0 → strollL G e (l ++ m) = strollL G e l
  | e, [], [], _, _ => rfl
  | e, [], x :: m, _, h => by simp only [strollL, lastD, List.getLast?_nil, Option.getD_none] at h; simp [strollL, h]
  | e, y :: l, m, hl, h => by
    by_cases h0 : (nxtR G e).length = 0
    · simp [strollL, h0]
    · simp only [strollL, if_neg h0, List.length_cons, lastD_cons] at hl h
      simp only [List.cons_append, strollL, if_neg h0]
      rw [stroll_stop G _ l m (by omega) h]
theorem pick_mem (G : GD) (e x : Int) (h : (nxtR G e).length ≠ 0) : ∃ (r : Nat) (hr : r < (nxtR G e).length), x % ((nxtR G e).length : Int) = (r : Int) ∧ (nxtR G e)[r] = pickS G e x := by
  have h1 := Int.emod_nonneg x (b := ((nxtR G e).length : Int)) (by omega)
  have h2 := Int.emod_lt_of_pos x (b := ((nxtR G e).length : Int)) (by omega)
  obtain ⟨r, hr⟩ := Int.eq_ofNat_of_zero_le h1
  have hl : r < (nxtR G e).length := by omega
  refine ⟨r, hl, hr, ?_⟩
  unfold pickS
  rw [hr]
  simp [List.getD, hl]
theorem nxt_turn (G : GD) (e x : Int) (h : x ∈ nxtR G e) : turnB G e x = true := by
  unfold nxtR at h
  obtain ⟨k, hk, rfl⟩ := List.mem_map.1 h
  exact (List.mem_filter.1 hk).2
theorem pick_turn (G : GD) (e x : Int) (h : (nxtR G e).length ≠ 0) : turnB G e (pickS G e x) = true := by
  obtain ⟨r, hr, _, he⟩ := pick_mem G e x h
  exact nxt_turn G e _ (by rw [← he]; exact List.getElem_mem hr)
theorem stroll_wlk (G : GD) : ∀ (e : Int) (l : List Int), wlk G e (strollL G e l) = true
  | _, [] => rfl
  | e, x :: l => by
    simp only [strollL]
    by_cases h0 : (nxtR G e).length = 0
    · simp [h0, wlk]
    · simp only [if_neg h0, wlk, Bool.and_eq_true]
      exact ⟨pick_turn G e x h0, stroll_wlk G _ l⟩
theorem wlk_all (G : GD) : ∀ (e : Int) (l : List Int), wlk G e l = true → allE G l = true
  | _, [], _ => rfl
  | e, x :: l, h => by
    simp only [wlk, Bool.and_eq_true] at h
    have : allE G (x :: l) = (edB G x && allE G l) := by simp [allE]
    rw [this, turn_ed2 G _ _ h.1, wlk_all G x l h.2]; rfl
end Go.Proofs.Ytagmnkobigecnaa
namespace Go.Proofs.Ytagmnkobigecnaa
open Go.RowKit Mile
set_option maxRecDepth 100000
theorem round24_e {k n r : Int} (h : k % n = r) (w : World) (h1 : 0 < n) (h2 : n ≤ 4611686018427387904) : Calls Try.prog 58 #[.int .i64 k, .int .i64 n] w fun e w' => e = .returned (.int .i64 r) ∧ w = w' :=
  (round24_q h w h1 h2).mono fun _ _ ⟨a, b⟩ => ⟨a, b.symm⟩

set_option maxHeartbeats 16000000 in
theorem stroll_any (G : GD) (w : World) (a1 : Option Addr) (n1 d1 : Nat) (a2 : Option Addr) (n2 d2 : Nat) (a3 : Option Addr) (n3 d3 : Nat) (h : GV w a1 n1 d1 a2 n2 d2 a3 n3 d3 G) (q2 : n2 ≤ 100000) (q3 : n3 ≤ 100000) (e0 : Int) (a : Option Addr) (n c : Nat) (xs : List Int) (hn : xs.length = n) (hr : Rd w 1 (.slice a n c) n (xs.map (Value.int .i64))) (hb : n ≤ 100000) :
    Calls Try.prog 28 #[.agg #[.slice a1 n1 d1, .slice a2 n2 d2, .slice a3 n3 d3], .int .i64 e0, .slice a n c] w fun e w' => ∃ v, e = .returned v ∧ IRow (strollL G e0 xs) v w' ∧ Mod (fun _ => False) w w' := by
  obtain ⟨iI, hiI, hzI, hsI, hbI⟩ := info_parts GR.infoI
  have HN := Lib.hid hn
  have he := Lib.hid h.e
  clear hn
  have HS : Hid (Ev (Mod (fun _ => False) w) w) := Lib.hid (Ev.mod w)
  replace HS := Lib.hid ((Ev.gv h).and HS.out)
  replace HS := Lib.hid ((Ev.rd hr).and HS.out)
  clear h hr
  go_enter Try.func28, Try.ntmps28
  go_upto_region 1 with fail
  obtain ⟨bx, hbx⟩ : ∃ b, w.heap.size = b := ⟨_, rfl⟩
  obtain ⟨wq1, hwq1⟩ : ∃ W, World.alloc w (.cells #[.slice a1 n1 d1, .slice a2 n2 d2, .slice a3 n3 d3] 28) = W := ⟨_, rfl⟩
  have hBbx : Blk wq1 bx 28 [.slice a1 n1 d1, .slice a2 n2 d2, .slice a3 n3 d3] := by rw [← hwq1, ← hbx]; exact Blk.new _ 28 [.slice a1 n1 d1, .slice a2 n2 d2, .slice a3 n3 d3]
  have hzbx : wq1.heap.size = bx + 1 := by rw [← hwq1, ← hbx]; exact heap_size_alloc _ _
  replace HS := Lib.hid (HS.out.step (w' := wq1) (by rw [← hwq1]; exact Mod.alloc _ _ _))
  replace HS := Lib.hid ((Ev.blk hBbx).and HS.out)
  try rw [hwq1]
  try rw [hbx]
  clear hzbx hBbx hbx hwq1
  have hbbx := (HS.out.now).1
  have qbx_0 := hbbx.cell 0 rfl
  have qbx_1 := hbbx.cell 1 rfl
  have qbx_2 := hbbx.cell 2 rfl
  have lbx := hbbx.lt
  clear hbbx
  obtain ⟨B0, hB0⟩ : ∃ n, wq1.heap.size = n := ⟨_, rfl⟩
  have HB0 := Lib.hid hB0
  clear hB0
  replace HS := Lib.hid ((Ev.mod wq1).and HS.out)
  go_wp2_with fail
  clear qbx_0 qbx_1 qbx_2 lbx
  go_loopw [1, 7, 8] (fun ev v i wr => ∃ (j : Nat) (ek : Int), j ≤ n ∧ i = .int .i64 j ∧ ev = .int .i64 ek ∧ ek = lastD e0 (strollL G e0 (xs.take j)) ∧ (strollL G e0 (xs.take j)).length = j ∧ Mod (fun _ => False) wq1 wr ∧ World.ownsRow wr B0 3 1 v j ((strollL G e0 (xs.take j)).map (Value.int .i64))) (fun _ _ i _ => n - (intOf i).toNat)
  case atStart => exact ⟨0, e0, by omega, rfl, rfl, rfl, rfl, Mod.refl _ _, World.ownsRow_nil _ _ _ _⟩
  case round =>
    obtain ⟨j, ek, hj, rfl, rfl, hek, hsl, hmr, hown⟩ := hrel
    obtain ⟨wo, hwo⟩ : ∃ x : World, x = wr := ⟨_, rfl⟩
    subst hwo
    replace HS := Lib.hid (HS.out.step hmr)
    clear hmr
    have hbbx := (HS.out.now).2.1
    have qbx_0 := hbbx.cell 0 rfl
    have qbx_1 := hbbx.cell 1 rfl
    have qbx_2 := hbbx.cell 2 rfl
    have lbx := hbbx.lt
    clear hbbx
    obtain ⟨av, cv, rfl⟩ := own_form hown
    have HO := Lib.hid hown
    have HEK := Lib.hid hek
    have HSL := Lib.hid hsl
    clear hown hek hsl
    by_cases hlt : j < n
    case pos =>
      have z0 : decide ((j : Int) < (n : Int)) = true := by simp; omega
      have hjl : j < xs.length := by rw [HN.out]; exact hlt
      have HTL : Hid ((xs.take j).length = j) := Lib.hid (by rw [List.length_take]; omega)
      go_wp2_with fail
      refine (r4next_any G _ a1 n1 d1 a2 n2 d2 a3 n3 d3 ((HS.out.now).2.2.2.1) q2 q3 ek).mono ?_
      rintro e wq2 ⟨v', rfl, ⟨an, cn, rfl, hx'⟩, hmm⟩
      have HMT := Lib.hid hmm
      replace HS := Lib.hid (HS.out.step hmm)
      clear hmm
      replace HS := Lib.hid ((Ev.rd hx').and HS.out)
      clear hx'
      clear qbx_0 qbx_1 qbx_2 lbx
      obtain ⟨ln, hln⟩ : ∃ q, (nxtR G ek).length = q := ⟨_, rfl⟩
      rw [hln] at HS ⊢
      have hl1 : ln ≤ 100000 := by rw [← hln]; have := nxtR_len G ek; have := he.out; omega
      have HLN := Lib.hid hln
      clear hln
      have HO2 := Lib.hid (Own.keep HO.out HMT.out (fun _ _ e => e))
      by_cases h0 : ln = 0
      case pos =>
        subst h0
        have hstop : strollL G e0 xs = strollL G e0 (xs.take j) := by have h1 := stroll_stop G e0 (xs.take j) (xs.drop j) (by rw [HSL.out, HTL.out]) (by rw [← HEK.out]; exact HLN.out); rw [List.take_append_drop] at h1; exact h1
        have HST := Lib.hid hstop
        clear hstop
        go_wp2_with fail
        go_ret
        refine ⟨_, rfl, ⟨av, cv, ?_, ?_⟩, (HS.out.now).2.2.2.2.2⟩
        · rw [HST.out, HSL.out]; rfl
        · rw [HST.out, HSL.out]; exact Rd.ofOwn HO2.out
      case neg =>
        have z1 : ((ln : Int) == 0) = false := beq_eq_false_iff_ne.2 (by omega)
        obtain ⟨x, HX0⟩ : ∃ qz, xs[j] = qz := ⟨_, rfl⟩
        have HX := Lib.hid HX0
        clear HX0
        obtain ⟨eb, eo, hpl, e0⟩ := rd1 (HS.out.now).2.2.2.1 j hjl
        have hix := fun wx => run_indexS (P := Try.prog) wx 22 3 iI 1 Try.underlying22 hiI hsI a n c j hlt ((HS.out.now).2.2.2.1.some_ (by have := hlt; omega))
        rw [hpl] at hix
        have HIe := Lib.hid hix
        clear hix hpl
        rw [HX.out] at e0
        replace HS := Lib.hid ((Ev.cell e0).and HS.out)
        clear e0
        obtain ⟨r, hr0, hrm, hre⟩ := pick_mem G ek x (by rw [HLN.out]; exact h0)
        obtain ⟨p, HP0⟩ : ∃ qz, pickS G ek x = qz := ⟨_, rfl⟩
        have HP := Lib.hid HP0
        clear HP0
        rw [HP.out] at hre
        rw [HLN.out] at hrm
        have hrl : r < ln := by rw [← HLN.out]; exact hr0
        have HRE := Lib.hid hre
        have HRM := Lib.hid hrm
        clear hre hrm
        obtain ⟨fb, fo, hpl, e0⟩ := rd1 (HS.out.now).2.1 r hr0
        have hix := fun wx => run_indexS (P := Try.prog) wx 22 3 iI 1 Try.underlying22 hiI hsI an ln cn r hrl ((HS.out.now).2.1.some_ (by have := hrl; omega))
        rw [hpl] at hix
        have HIf := Lib.hid hix
        clear hix hpl
        rw [HRE.out] at e0
        replace HS := Lib.hid ((Ev.cell e0).and HS.out)
        clear e0
        have qe := (HS.out.now).2.1
        have hix := HIe.out
        have qf := (HS.out.now).1
        have hiy := HIf.out
        have hz : B0 ≤ wq2.heap.size := by rw [← HB0.out]; exact ((HS.out.now).2.2.2.1).size
        go_wp2_with (first | (go_at_call 58; refine (round24_e HRM.out _ (by omega) (by omega)).mono ?_; rintro e wz ⟨rfl, rfl⟩) | (at_builtin; refine wpList_append_any rfl (.tmp 32) (.tmp 34) 22 rfl 3 iI (.int .i64 0) 1 8 Try.underlying22 hiI hzI hsI hbI rfl (by decide) _ j _ rfl (World.ownsRow.alloc (Own.base HO2.out (Nat.zero_le _)) _) _ 1 [.int .i64 p] rfl (Rd.one _ _ _) (by simp [Value.oneCell']) (by unfold maxLen; omega) (by omega) ?_; intro v4 w4 hap; obtain ⟨a4, c4, rfl⟩ := hap.form; have ho4 := hap.own; have lo4 := hap.low (B := B0) (by simp; omega) (fun k hk => (HO2.out.lt k hk).1); have hm4 := hap.modOld (((HS.out.now).2.2.2.1).thenAlloc _) (fun k hk => by rw [HB0.out]; exact (HO2.out.lt k hk).1); have HO4 := Lib.hid (Own.rebase ho4 lo4); have HM4 := Lib.hid hm4; clear hap ho4 lo4 hm4))
        go_roundw
        case rel =>
          have hs : strollL G e0 (xs.take (j + 1)) = strollL G e0 (xs.take j) ++ [p] := by
            rw [take_snoc' xs j hjl, stroll_snoc G e0 (xs.take j) _ (by rw [HSL.out, HTL.out]) (by rw [← HEK.out, HLN.out]; exact h0), ← HEK.out, HX.out, HP.out]
          refine ⟨j + 1, p, hlt, by go_num, rfl, by rw [hs, lastD_snoc], by rw [hs, List.length_append, HSL.out]; rfl, HM4.out, ?_⟩
          rw [hs, List.map_append]
          exact HO4.out
        case measure => simp [intOf]; omega
    case neg =>
      obtain rfl : j = n := by omega
      have z0 : decide ((j : Int) < (j : Int)) = false := by simp
      have ht : xs.take j = xs := List.take_of_length_le (by rw [HN.out]; exact Nat.le_refl _)
      have h1 := HO.out
      have h2 := HSL.out
      rw [ht] at h1 h2
      have HO5 := Lib.hid h1
      have HS5 := Lib.hid h2
      clear ht h1 h2
      go_wp2_with fail
      go_ret
      refine ⟨_, rfl, ⟨av, cv, ?_, ?_⟩, (HS.out.now).2.2.2.2⟩
      · rw [HS5.out]; rfl
      · rw [HS5.out]; exact Rd.ofOwn HO5.out
end Go.Proofs.Ytagmnkobigecnaa
namespace Mile
open Go Go.RowKit
theorem rd_cap {w : World} {s n c : Nat} {a : Option Addr} {xs : List Value} (h : Rd w s (.slice a n c) n xs) : n ≤ c := by
  obtain ⟨_, a', c', he, h1, _⟩ := h; cases he; exact h1
theorem rd_take {w : World} {n c : Nat} {a : Option Addr} {xs : List Int} (h : Rd w 1 (.slice a n c) n (xs.map (Value.int .i64))) {k : Nat} (hk : k ≤ n) : Rd w 1 (.slice a k c) k ((xs.take k).map (Value.int .i64)) := by
  have := h.take hk; rwa [Nat.mul_one, ← List.map_take] at this
theorem rd_drop {w : World} {n c : Nat} {a : Option Addr} {xs : List Int} (h : Rd w 1 (.slice a n c) n (xs.map (Value.int .i64))) {k : Nat} (hk : k ≤ n) : Rd w 1 (.slice (dropA a c k 1) (n - k) (c - k)) (n - k) ((xs.drop k).map (Value.int .i64)) := by
  have := h.drop hk; rwa [Nat.mul_one, ← List.map_drop] at this
end Mile
