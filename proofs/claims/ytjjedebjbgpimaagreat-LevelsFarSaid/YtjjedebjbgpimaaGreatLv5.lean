/- levels: Rank, Up, Down, Cuts, by contract. -/
import Derived.Test.YtjjedebjbgpimaaGreatLv4
import Derived.Test.YtjjedebjbgpimaaGreatLvD
namespace Go.Proofs.YtjjedebjbgpimaaGreat
open Go.RowKit Mile
set_option maxRecDepth 100000
attribute [local go_sem] Oper.semAt_some
/-- What Rank tells. -/
def rankV (n : Nat) (V : List Nat) (v : Int) : Int := if 0 ≤ v ∧ v < (n : Int) then (rkL n V).getD v.toNat 0 else -1
theorem rankV_at {n : Nat} {V : List Nat} {v : Nat} (h : v < n) : rankV n V (v : Int) = (rkL n V)[v]'(by rw [rkL_len]; exact h) := by
  unfold rankV
  rw [if_pos ⟨by omega, by omega⟩, Int.toNat_natCast, List.getD_eq_getElem?_getD, List.getElem?_eq_getElem (by rw [rkL_len]; exact h)]
  rfl
theorem rankV_in {n : Nat} {V : List Nat} {v : Nat} (h : v < n) (hv : v ∈ V) : rankV n V (v : Int) = ((V.idxOf v : Nat) : Int) := by
  rw [rankV_at h, rkL_at, if_pos hv]
set_option maxHeartbeats 4000000 in
theorem lv_rank {w : World} {p n : Nat} {T : List Ar} {V : List Nat} {F : Nat → Prop} (h : LO w p n T V F) (v r : Int) (hr : rankV n V v = r) : Calls Tryz.prog 19 #[.pointer (some ⟨p, 0, none⟩), .int .i64 v] w fun e w' => e = .returned (.int .i64 r) ∧ w' = w := by
  obtain ⟨iI, hiI, hzI, hsI, hbI⟩ := info_parts Nt.infoI
  obtain ⟨tl, rd, mb, FT, hl, _⟩ := h
  have b1 := hl.blk.cell 1 rfl
  have hrow := Rd.ofOwn hl.row
  have HR := Lib.hid hr
  clear hr
  by_cases h0 : v < 0
  · have z0 : decide (v < 0) = true := decide_eq_true h0
    have hr : rankV n V v = -1 := by unfold rankV; rw [if_neg (by omega)]
    rw [hr] at HR
    clear hr hl hrow b1 h0
    go_enter Tryz.func19, Tryz.ntmps19
    go_wp2_with fail
    go_ret
    exact ⟨by rw [← HR.out]; rfl, rfl⟩
  · have z0 : decide (v < 0) = false := decide_eq_false h0
    obtain ⟨v, rfl⟩ := Int.eq_ofNat_of_zero_le (show 0 ≤ v by omega)
    by_cases hlt : v < n
    · have z1 : decide ((n : Int) ≤ (v : Int)) = false := by simp; omega
      have hix := fun wx => run_indexS (P := Tryz.prog) wx 40 3 iI 1 Tryz.underlying40 hiI hsI (some ⟨rd, 0, none⟩) n n v hlt (by simp)
      rw [elemA_lit1] at hix
      have c0 := hrow.at_ (i := v) (u := .int .i64 r) (by
        rw [List.getElem?_map, List.getElem?_eq_getElem (by rw [rkL_len]; exact hlt), ← rankV_at hlt, HR.out]; rfl)
      rw [Nat.zero_add] at c0
      clear hl hrow h0 HR
      go_enter Tryz.func19, Tryz.ntmps19
      go_wp2_with fail
      go_ret
      exact ⟨rfl, rfl⟩
    · have z1 : decide ((n : Int) ≤ (v : Int)) = true := by simp; omega
      have hr : rankV n V (v : Int) = -1 := by unfold rankV; rw [if_neg (by omega)]
      rw [hr] at HR
      clear hr hl hrow h0
      go_enter Tryz.func19, Tryz.ntmps19
      go_wp2_with fail
      go_ret
      exact ⟨by rw [← HR.out]; rfl, rfl⟩
theorem lv_rank_q {w : World} {p n : Nat} {T : List Ar} {V : List Nat} {F : Nat → Prop} (h : LO w p n T V F) {v r : Int} (hr : rankV n V v = r) (j : Nat) : Calls Tryz.prog 19 #[.pointer (some ⟨p, 0, none⟩), .int .i64 v] (w.drewN j) fun e w' => e = .returned (.int .i64 r) ∧ w' = w.drewN j :=
  lv_rank (h.later (Mod.drewN (fun _ => False) w j)) v r hr
theorem decide_of {p q : Prop} [Decidable p] [Decidable q] (h : p ↔ q) : decide p = decide q := decide_eq_decide.2 h
set_option maxHeartbeats 4000000 in
theorem up1_any {w : World} {p n bl bv : Nat} {T : List Ar} {V : List Nat} {F : Nat → Prop} (h : LO w p n T V F) (v : Int) (cl : w.cell? ⟨bl, 0, none⟩ = some (.pointer (some ⟨p, 0, none⟩))) (cv : w.cell? ⟨bv, 0, none⟩ = some (.int .i64 v)) (x : Ar) :
    Calls Tryz.prog 62 #[.agg #[.int .i64 x.f, .int .i64 x.t, .int .i64 x.w, .int .i64 x.m], .pointer (some ⟨bl, 0, none⟩), .pointer (some ⟨bv, 0, none⟩)] w fun e w' => e = .returned (.bool (decide (rankV n V x.t ≤ rankV n V v))) ∧ Mod (fun _ => False) w w' := by
  obtain ⟨xf, xt, xw, xm⟩ := x
  simp only
  obtain ⟨w1, hw1⟩ : ∃ y, w.alloc (.cells #[.int .i64 xf, .int .i64 xt, .int .i64 xw, .int .i64 xm] 50) = y := ⟨_, rfl⟩
  have hm1 : Mod (fun _ => False) w w1 := by rw [← hw1]; exact Mod.alloc _ _ _
  have hb1 : Blk w1 w.heap.size 50 [.int .i64 xf, .int .i64 xt, .int .i64 xw, .int .i64 xm] := by rw [← hw1]; exact Blk.new w 50 [.int .i64 xf, .int .i64 xt, .int .i64 xw, .int .i64 xm]
  have HL := Lib.hid (h.later hm1)
  have HM := Lib.hid hm1
  obtain ⟨r1, hr1⟩ : ∃ y, rankV n V xt = y := ⟨_, rfl⟩
  obtain ⟨r2, hr2⟩ : ∃ y, rankV n V v = y := ⟨_, rfl⟩
  rw [hr1, hr2]
  replace cl := hm1.cell cl (fun e => e)
  replace cv := hm1.cell cv (fun e => e)
  have g0 := hb1.cell 0 rfl
  have g1 := hb1.cell 1 rfl
  clear hm1 hb1 h
  go_enter Tryz.func62, Tryz.ntmps62
  go_upto_region 1 with fail
  (try rw [hw1])
  clear hw1
  go_quiet ((go_at_call 19; exact Calls.quiet_of_same (lv_rank_q HL.out (by assumption) _)))
  go_wp2_with fail
  go_ret
  exact ⟨rfl, HM.out.of2 (Mod.drewN _ _ _)⟩
set_option maxHeartbeats 4000000 in
theorem indexUp_any (b2 b3 : Nat) (p : Ar → Bool) (FB : Nat → Prop) (w : World) (a : Option Addr) (n c : Nat) (xs : List Ar) (hn : xs.length = n) (hr : Rd w 4 (.slice a n c) n (xs.flatMap c4)) (hb : n ≤ 1000000)
    (hf : ∀ W (x : Ar), Mod FB w W → Calls Tryz.prog 62 #[.agg #[.int .i64 x.f, .int .i64 x.t, .int .i64 x.w, .int .i64 x.m], .pointer (some ⟨b2, 0, none⟩), .pointer (some ⟨b3, 0, none⟩)] W fun e w' => e = .returned (.bool (p x)) ∧ Mod (fun _ => False) W w') :
    Calls Tryz.prog 97 #[.slice a n c, .func (.func 62) #[] #[.pointer (some ⟨b2, 0, none⟩), .pointer (some ⟨b3, 0, none⟩)]] w fun e w' => (∃ r : Int, e = .returned (.int .i64 r) ∧ ((r = -1 ∧ ∀ x ∈ xs, p x = false) ∨ ∃ k : Nat, r = k ∧ ∃ hk : k < xs.length, p (xs[k]'hk) = true ∧ ∀ x ∈ xs.take k, p x = false)) ∧ Mod (fun _ => False) w w' := by
  obtain ⟨iA, hiA, hzA, hsA, hbA⟩ := info_parts Nt.infoA
  have HF := Lib.hid hf
  have HN := Lib.hid hn
  have HR := Lib.hid hr
  clear hf hn hr
  go_enter Tryz.func97, Tryz.ntmps97
  go_wp2_with fail
  go_loopw [8] (fun i wr => ∃ k : Nat, k ≤ n ∧ i = .int .i64 k ∧ Mod (fun _ => False) w wr ∧ ∀ x ∈ xs.take k, p x = false) (fun i _ => n - (intOf i).toNat)
  case atStart => exact ⟨0, by omega, rfl, Mod.refl _ _, fun x hx => by simp at hx⟩
  case round =>
    obtain ⟨k, hk, rfl, hm, hall⟩ := hrel
    obtain ⟨wo, hwo⟩ : ∃ x : World, x = wr := ⟨_, rfl⟩
    subst hwo
    have HM := Lib.hid hm
    have HA := Lib.hid hall
    clear hm hall
    by_cases hlt : k < n
    · have z0 : decide ((k : Int) < (n : Int)) = true := by simp; omega
      have hkl : k < xs.length := by rw [HN.out]; exact hlt
      obtain ⟨eb, eo, hpl, e0, e1, e2, e3⟩ := rd4 (HR.out.keep HM.out (fun _ _ e => e)) k hkl
      have hix := fun wx => run_indexS (P := Tryz.prog) wx 34 50 iA 4 Tryz.underlying34 hiA hsA a n c k hlt (HR.out.some_ (by omega))
      rw [hpl] at hix
      obtain ⟨x, hx⟩ : ∃ x, xs[k] = x := ⟨_, rfl⟩
      rw [hx] at e0 e1 e2 e3
      have HX := Lib.hid hx
      clear hx hpl
      obtain ⟨b, hpb⟩ : ∃ b, p x = b := ⟨_, rfl⟩
      have HP := Lib.hid hpb
      clear hpb
      go_wp2_with fail
      refine (HF.out _ x (HM.out.mono (fun _ _ e => e.elim))).mono ?_
      rintro e w2 ⟨rfl, hm2⟩
      rw [HP.out]
      have HM2 := Lib.hid (HM.out.of2 hm2)
      clear hm2 hix e0 e1 e2 e3
      cases b with
      | true =>
        go_wp2_with fail
        go_ret
        exact ⟨⟨k, rfl, .inr ⟨k, rfl, hkl, by rw [HX.out]; exact HP.out, HA.out⟩⟩, HM2.out⟩
      | false =>
        go_wp2_with fail
        go_roundw
        case rel =>
          refine ⟨k + 1, hlt, by go_num, HM2.out, fun y hy => ?_⟩
          rw [List.take_succ_eq_append_getElem hkl] at hy
          rcases List.mem_append.1 hy with h | h
          · exact HA.out y h
          · rw [List.mem_singleton] at h; rw [h, HX.out]; exact HP.out
        case measure => simp [intOf]; omega
    · have z0 : decide ((k : Int) < (n : Int)) = false := by simp; omega
      go_wp2_with fail
      go_ret
      exact ⟨⟨-1, rfl, .inl ⟨rfl, fun x hx => HA.out x (by rw [List.take_of_length_le (by have := HN.out; omega)]; exact hx)⟩⟩, HM.out⟩
set_option maxHeartbeats 8000000 in
theorem deleteUp_any (b2 b3 : Nat) (p : Ar → Bool) (w : World) (base : Nat) (a : Option Addr) (n c : Nat) (xs : List Ar) (hn : xs.length = n) (ho : w.ownsRow base 50 4 (.slice a n c) n (xs.flatMap c4)) (hb : n ≤ 1000000)
    (hf : ∀ W (x : Ar), Mod (fun k => (Value.slice a n c).ownBlock = some k) w W → Calls Tryz.prog 62 #[.agg #[.int .i64 x.f, .int .i64 x.t, .int .i64 x.w, .int .i64 x.m], .pointer (some ⟨b2, 0, none⟩), .pointer (some ⟨b3, 0, none⟩)] W fun e w' => e = .returned (.bool (p x)) ∧ Mod (fun _ => False) W w') :
    Calls Tryz.prog 61 #[.slice a n c, .func (.func 62) #[] #[.pointer (some ⟨b2, 0, none⟩), .pointer (some ⟨b3, 0, none⟩)]] w fun e w' => (∃ a2 c2, e = .returned (.slice a2 (keptG p xs).length c2) ∧ Rd w' 4 (.slice a2 (keptG p xs).length c2) (keptG p xs).length ((keptG p xs).flatMap c4) ∧ ∀ k, (Value.slice a2 (keptG p xs).length c2).ownBlock = some k → (Value.slice a n c).ownBlock = some k) ∧ Mod (fun k => (Value.slice a n c).ownBlock = some k) w w' := by
  obtain ⟨iA, hiA, hzA, hsA, hbA⟩ := info_parts Nt.infoA
  have HF := Lib.hid hf
  have HN := Lib.hid hn
  have HO0 := Lib.hid ho
  clear hf hn
  go_enter Tryz.func61, Tryz.ntmps61
  go_wp2_with fail
  refine (indexUp_any b2 b3 p _ w a n c xs HN.out (Rd.ofOwn HO0.out) hb HF.out).mono ?_
  rintro e w1 ⟨⟨r, rfl, hr⟩, hm⟩
  have HM := Lib.hid hm
  clear hm
  rcases hr with ⟨rfl, hall⟩ | ⟨k, rfl, hk, hpk, hall⟩
  · have HA := Lib.hid hall
    clear hall ho
    go_wp2_with fail
    go_ret
    refine ⟨⟨a, c, ?_, ?_, fun k h => by cases a <;> exact h⟩, HM.out.mono (fun _ _ e => e.elim)⟩
    · rw [keptG_none HA.out, HN.out]; rfl
    · rw [keptG_none HA.out, HN.out]; exact (Rd.ofOwn HO0.out).keep HM.out (fun _ _ e => e)
  · have hkn : k < n := by rw [← HN.out]; exact hk
    obtain ⟨ob, c', hab, hlo, hlt⟩ := own_block ho (by omega)
    cases hab
    have hI0 := delG_start hk hpk hall
    have HI0 := Lib.hid hI0
    have hO := Lib.hid (Own.keep ho HM.out (fun _ _ e => e))
    clear hall hpk hI0 ho
    have z0 : ((k : Int) == -1) = false := by rw [beq_eq_false_iff_ne]; omega
    have HOB : Hid (∀ k, (Value.slice (some ⟨ob, 0, none⟩) n c).ownBlock = some k ↔ k = ob) := Lib.hid fun k => by simp [Value.ownBlock]; omega
    go_wp2_with fail
    go_loopw [5, 6] (fun i j wr => ∃ I J : Nat, i = .int .i64 I ∧ j = .int .i64 J ∧ ∃ ys, DelG p xs ys I J ∧ World.ownsRow wr base 50 4 (.slice (some ⟨ob, 0, none⟩) n c) n (ys.flatMap c4) ∧ Mod (fun k => k = ob) w wr) (fun _ j _ => n - (intOf j).toNat)
    case atStart => exact ⟨k, k + 1, rfl, by go_num, xs, HI0.out, hO.out, HM.out.mono (fun _ _ e => e.elim)⟩
    case round =>
      obtain ⟨I, J, rfl, rfl, ys, hI, hOw, hm⟩ := hrel
      obtain ⟨wo, hwo⟩ : ∃ x : World, x = wr := ⟨_, rfl⟩
      subst hwo
      have hJ : J ≤ n := by have := hI.2.1; have := HN.out; omega
      have hIJ : I < J := hI.2.2.1
      have hyl : ys.length = n := by rw [hI.1]; exact HN.out
      have HI := Lib.hid hI
      have HO := Lib.hid hOw
      have HMW := Lib.hid hm
      have HYL := Lib.hid hyl
      clear hI hOw hm hyl hO HI0
      by_cases hlt2 : J < n
      · have z1 : decide ((J : Int) < (n : Int)) = true := by simp; omega
        obtain ⟨hy, he⟩ := delG_at HI.out (by rw [HN.out]; exact hlt2)
        obtain ⟨eb, eo, hpl, e0, e1, e2, e3⟩ := rd4 (Rd.ofOwn HO.out) J hy
        have hix := fun wx => run_indexS (P := Tryz.prog) wx 34 50 iA 4 Tryz.underlying34 hiA hsA (some ⟨ob, 0, none⟩) n c J hlt2 (by simp)
        rw [hpl] at hix
        rw [he] at e0 e1 e2 e3
        obtain ⟨x, hx⟩ : ∃ x, xs[J]'(by rw [HN.out]; exact hlt2) = x := ⟨_, rfl⟩
        rw [hx] at e0 e1 e2 e3
        have HX := Lib.hid hx
        clear hx hpl he hy
        obtain ⟨b, hpb⟩ : ∃ b, p x = b := ⟨_, rfl⟩
        have HP := Lib.hid hpb
        clear hpb
        obtain ⟨xf, xt, xw, xm⟩ := x
        simp only at e0 e1 e2 e3
        go_upto_region 8 with fail
        obtain ⟨g, hg⟩ : ∃ y, wo.heap.size = y := ⟨_, rfl⟩
        obtain ⟨w5, hw5⟩ : ∃ y, wo.alloc (.cells #[.int .i64 xf, .int .i64 xt, .int .i64 xw, .int .i64 xm] 50) = y := ⟨_, rfl⟩
        have hg5 : Blk w5 g 50 [.int .i64 xf, .int .i64 xt, .int .i64 xw, .int .i64 xm] := by rw [← hw5, ← hg]; exact Blk.new wo 50 [.int .i64 xf, .int .i64 xt, .int .i64 xw, .int .i64 xm]
        have hm5 : Mod (fun _ => False) wo w5 := by rw [← hw5]; exact Mod.alloc _ _ _
        (try rw [hw5])
        (try rw [hg])
        have g0 := hg5.cell 0 rfl
        have g1 := hg5.cell 1 rfl
        have g2 := hg5.cell 2 rfl
        have g3 := hg5.cell 3 rfl
        have hcall := HF.out w5 ⟨xf, xt, xw, xm⟩ ((HMW.out.trans hm5 (H := fun k => k = ob) (fun _ _ e => e) (fun _ _ e => e.elim)).mono (fun i _ e => (HOB.out i).2 e))
        rw [HP.out] at hcall
        have HCL := Lib.hid hcall
        have hgo : g ≠ ob := by have := (HO.out.lt ob ((HOB.out ob).2 rfl)).2; omega
        have HG5 := Lib.hid hg5
        have HM5 := Lib.hid hm5
        clear hg hw5 hg5 hm5 e0 e1 e2 e3 hix hcall
        go_wp2_with fail
        refine HCL.out.mono ?_
        rintro e w2 ⟨rfl, hm2⟩
        have HM2 : Hid (Mod (fun k => k = ob) w w2) := Lib.hid ((HMW.out.trans HM5.out (H := fun k => k = ob) (fun _ _ e => e) (fun _ _ e => e.elim)).trans hm2 (fun _ _ e => e) (fun _ _ e => e.elim))
        have HO2 := Lib.hid (Own.keep (Own.keep HO.out HM5.out (fun _ _ e => e)) hm2 (fun _ _ e => e))
        have hg2 := HG5.out.keep hm2 (fun e => e)
        clear hm2 g0 g1 g2 g3 HCL
        cases b with
        | true =>
          clear hg2
          go_wp2_with fail
          go_roundw
          case rel => exact ⟨I, J + 1, rfl, by go_num, ys, delG_skip HI.out (by rw [HN.out]; exact hlt2) (by rw [HX.out]; exact HP.out), HO2.out, HM2.out⟩
          case measure => simp [intOf]; omega
        | false =>
          have hIn : I < n := by omega
          have hix2 := fun wx => run_indexS (P := Tryz.prog) wx 34 50 iA 4 Tryz.underlying34 hiA hsA (some ⟨ob, 0, none⟩) n c I hIn (by simp)
          rw [elemA_lit4] at hix2
          have g0 := hg2.cell 0 rfl
          have g1 := hg2.cell 1 rfl
          have g2 := hg2.cell 2 rfl
          have g3 := hg2.cell 3 rfl
          have hroom0 := Room.ofOwn HO2.out (I * 4) (by omega)
          have hroom1 := Room.ofOwn HO2.out (I * 4 + 1) (by omega)
          have hroom2 := Room.ofOwn HO2.out (I * 4 + 2) (by omega)
          have hroom3 := Room.ofOwn HO2.out (I * 4 + 3) (by omega)
          obtain ⟨v0, q0⟩ := hroom0.cell
          obtain ⟨v1, q1⟩ := hroom1.cell
          obtain ⟨v2, q2⟩ := hroom2.cell
          obtain ⟨v3, q3⟩ := hroom3.cell
          have f0 := hroom0.free
          have f1 := hroom1.free
          have f2 := hroom2.free
          have f3 := hroom3.free
          have hst := ((((((HO2.out.stored (I * 4) (.int .i64 xf)).1).stored (I * 4 + 1) (.int .i64 xt)).1).stored (I * 4 + 2) (.int .i64 xw)).1.stored (I * 4 + 3) (.int .i64 xm)).1
          have hsm : Mod (fun k => k = ob) w2 ((((w2.setCell ⟨ob, I * 4, none⟩ (.int .i64 xf)).setCell ⟨ob, I * 4 + 1, none⟩ (.int .i64 xt)).setCell ⟨ob, I * 4 + 2, none⟩ (.int .i64 xw)).setCell ⟨ob, I * 4 + 3, none⟩ (.int .i64 xm)) := (((Mod.setCell (F := fun k => k = ob) _ _ _ rfl).trans (Mod.setCell (F := fun k => k = ob) _ _ _ rfl) (fun _ _ e => e) (fun _ _ e => e)).trans (Mod.setCell (F := fun k => k = ob) _ _ _ rfl) (fun _ _ e => e) (fun _ _ e => e)).trans (Mod.setCell (F := fun k => k = ob) _ _ _ rfl) (fun _ _ e => e) (fun _ _ e => e)
          have h4 := c4_set4 ys I (by rw [HYL.out]; exact hIn) ⟨xf, xt, xw, xm⟩
          simp only at h4
          rw [h4] at hst
          have HST := Lib.hid (And.intro hst (HM2.out.trans hsm (H := fun k => k = ob) (fun _ _ e => e) (fun _ _ e => e)))
          clear hst hsm h4 hroom0 hroom1 hroom2 hroom3 hg2
          go_wp2_with fail
          go_roundw
          case rel =>
            refine ⟨I + 1, J + 1, by go_num, by go_num, ys.set I ⟨xf, xt, xw, xm⟩, ?_, HST.out.1, HST.out.2⟩
            have h := delG_keep HI.out (by rw [HN.out]; exact hlt2) (by rw [HX.out]; exact HP.out)
            rw [HX.out] at h; exact h
          case measure => simp [intOf]; omega
      · obtain rfl : J = n := by omega
        have z1 : decide ((J : Int) < (J : Int)) = false := by simp
        have hE := delG_end (show DelG p xs ys I xs.length by rw [HN.out]; exact HI.out)
        obtain ⟨h1, h2, h3⟩ := hE
        have h4 : I < J := by rw [← HN.out]; exact h3
        have H1 := Lib.hid h1
        have H2 := Lib.hid h2
        have hcap : J ≤ c := by obtain ⟨_, h | ⟨g, cap, cur, he, _, _, hc, _⟩⟩ := HO.out; exact absurd h.1 (by simp); cases he; exact hc
        have hsl := fun wx => run_dropS (P := Tryz.prog) wx 34 50 iA 4 Tryz.underlying34 hiA hsA (some ⟨ob, 0, none⟩) J c I (by omega)
        have hdr : dropA (some ⟨ob, 0, none⟩) c I 4 = some ⟨ob, I * 4, none⟩ := by unfold dropA; rw [if_neg (by omega)]; show some (Addr.add _ _) = _; rw [Addr.add_lit, Nat.zero_add]
        rw [hdr] at hsl
        have hzv : ∀ w : World, (zeroValue 50).run Tryz.prog w = .ok (.agg #[.int .i64 0, .int .i64 0, .int .i64 0, .int .i64 0]) w := fun w => by kernel_rfl
        have hcl := fun ty => run_clear_arcs (P := Tryz.prog) wo 34 50 ty Tryz.underlying34 hzv ob (I * 4) (J - I) (c - I) (by omega) (fun j hj => by obtain ⟨v, hv⟩ := (Room.ofOwn HO.out (I * 4 + j) (by omega)).cell; rw [hv]; rfl) (fun j hj => (Room.ofOwn HO.out (I * 4 + j) (by omega)).free)
        have htk := fun wx => run_takeS (P := Tryz.prog) wx 34 50 iA Tryz.underlying34 hiA (some ⟨ob, 0, none⟩) J c I (by omega)
        clear h1 h2 h3 hdr hzv
        go_wp2_with fail
        go_ret
        refine ⟨⟨some ⟨ob, 0, none⟩, c, by rw [← H2.out]; rfl, ?_, fun k h => (HOB.out k).2 (Option.some.inj h).symm⟩, (HMW.out.trans (Mod.setCellsG _ _ _) (fun i _ e => (HOB.out i).2 e) (fun i _ e => (HOB.out i).2 e))⟩
        rw [← H2.out, ← H1.out]
        exact rd_cleared4 HO.out (by omega)
set_option maxHeartbeats 4000000 in
theorem down1_any {w : World} {p n bl bv : Nat} {T : List Ar} {V : List Nat} {F : Nat → Prop} (h : LO w p n T V F) (v : Int) (cl : w.cell? ⟨bl, 0, none⟩ = some (.pointer (some ⟨p, 0, none⟩))) (cv : w.cell? ⟨bv, 0, none⟩ = some (.int .i64 v)) (x : Ar) :
    Calls Tryz.prog 65 #[.agg #[.int .i64 x.f, .int .i64 x.t, .int .i64 x.w, .int .i64 x.m], .pointer (some ⟨bl, 0, none⟩), .pointer (some ⟨bv, 0, none⟩)] w fun e w' => e = .returned (.bool (decide (rankV n V x.f ≤ rankV n V v))) ∧ Mod (fun _ => False) w w' := by
  obtain ⟨xf, xt, xw, xm⟩ := x
  simp only
  obtain ⟨w1, hw1⟩ : ∃ y, w.alloc (.cells #[.int .i64 xf, .int .i64 xt, .int .i64 xw, .int .i64 xm] 50) = y := ⟨_, rfl⟩
  have hm1 : Mod (fun _ => False) w w1 := by rw [← hw1]; exact Mod.alloc _ _ _
  have hb1 : Blk w1 w.heap.size 50 [.int .i64 xf, .int .i64 xt, .int .i64 xw, .int .i64 xm] := by rw [← hw1]; exact Blk.new w 50 [.int .i64 xf, .int .i64 xt, .int .i64 xw, .int .i64 xm]
  have HL := Lib.hid (h.later hm1)
  have HM := Lib.hid hm1
  obtain ⟨r1, hr1⟩ : ∃ y, rankV n V xf = y := ⟨_, rfl⟩
  obtain ⟨r2, hr2⟩ : ∃ y, rankV n V v = y := ⟨_, rfl⟩
  rw [hr1, hr2]
  replace cl := hm1.cell cl (fun e => e)
  replace cv := hm1.cell cv (fun e => e)
  have g0 := hb1.cell 0 rfl
  have g1 := hb1.cell 1 rfl
  clear hm1 hb1 h
  go_enter Tryz.func65, Tryz.ntmps65
  go_upto_region 1 with fail
  (try rw [hw1])
  clear hw1
  go_quiet ((go_at_call 19; exact Calls.quiet_of_same (lv_rank_q HL.out (by assumption) _)))
  go_wp2_with fail
  go_ret
  exact ⟨rfl, HM.out.of2 (Mod.drewN _ _ _)⟩
set_option maxHeartbeats 4000000 in
theorem indexDown_any (b2 b3 : Nat) (p : Ar → Bool) (FB : Nat → Prop) (w : World) (a : Option Addr) (n c : Nat) (xs : List Ar) (hn : xs.length = n) (hr : Rd w 4 (.slice a n c) n (xs.flatMap c4)) (hb : n ≤ 1000000)
    (hf : ∀ W (x : Ar), Mod FB w W → Calls Tryz.prog 65 #[.agg #[.int .i64 x.f, .int .i64 x.t, .int .i64 x.w, .int .i64 x.m], .pointer (some ⟨b2, 0, none⟩), .pointer (some ⟨b3, 0, none⟩)] W fun e w' => e = .returned (.bool (p x)) ∧ Mod (fun _ => False) W w') :
    Calls Tryz.prog 97 #[.slice a n c, .func (.func 65) #[] #[.pointer (some ⟨b2, 0, none⟩), .pointer (some ⟨b3, 0, none⟩)]] w fun e w' => (∃ r : Int, e = .returned (.int .i64 r) ∧ ((r = -1 ∧ ∀ x ∈ xs, p x = false) ∨ ∃ k : Nat, r = k ∧ ∃ hk : k < xs.length, p (xs[k]'hk) = true ∧ ∀ x ∈ xs.take k, p x = false)) ∧ Mod (fun _ => False) w w' := by
  obtain ⟨iA, hiA, hzA, hsA, hbA⟩ := info_parts Nt.infoA
  have HF := Lib.hid hf
  have HN := Lib.hid hn
  have HR := Lib.hid hr
  clear hf hn hr
  go_enter Tryz.func97, Tryz.ntmps97
  go_wp2_with fail
  go_loopw [8] (fun i wr => ∃ k : Nat, k ≤ n ∧ i = .int .i64 k ∧ Mod (fun _ => False) w wr ∧ ∀ x ∈ xs.take k, p x = false) (fun i _ => n - (intOf i).toNat)
  case atStart => exact ⟨0, by omega, rfl, Mod.refl _ _, fun x hx => by simp at hx⟩
  case round =>
    obtain ⟨k, hk, rfl, hm, hall⟩ := hrel
    obtain ⟨wo, hwo⟩ : ∃ x : World, x = wr := ⟨_, rfl⟩
    subst hwo
    have HM := Lib.hid hm
    have HA := Lib.hid hall
    clear hm hall
    by_cases hlt : k < n
    · have z0 : decide ((k : Int) < (n : Int)) = true := by simp; omega
      have hkl : k < xs.length := by rw [HN.out]; exact hlt
      obtain ⟨eb, eo, hpl, e0, e1, e2, e3⟩ := rd4 (HR.out.keep HM.out (fun _ _ e => e)) k hkl
      have hix := fun wx => run_indexS (P := Tryz.prog) wx 34 50 iA 4 Tryz.underlying34 hiA hsA a n c k hlt (HR.out.some_ (by omega))
      rw [hpl] at hix
      obtain ⟨x, hx⟩ : ∃ x, xs[k] = x := ⟨_, rfl⟩
      rw [hx] at e0 e1 e2 e3
      have HX := Lib.hid hx
      clear hx hpl
      obtain ⟨b, hpb⟩ : ∃ b, p x = b := ⟨_, rfl⟩
      have HP := Lib.hid hpb
      clear hpb
      go_wp2_with fail
      refine (HF.out _ x (HM.out.mono (fun _ _ e => e.elim))).mono ?_
      rintro e w2 ⟨rfl, hm2⟩
      rw [HP.out]
      have HM2 := Lib.hid (HM.out.of2 hm2)
      clear hm2 hix e0 e1 e2 e3
      cases b with
      | true =>
        go_wp2_with fail
        go_ret
        exact ⟨⟨k, rfl, .inr ⟨k, rfl, hkl, by rw [HX.out]; exact HP.out, HA.out⟩⟩, HM2.out⟩
      | false =>
        go_wp2_with fail
        go_roundw
        case rel =>
          refine ⟨k + 1, hlt, by go_num, HM2.out, fun y hy => ?_⟩
          rw [List.take_succ_eq_append_getElem hkl] at hy
          rcases List.mem_append.1 hy with h | h
          · exact HA.out y h
          · rw [List.mem_singleton] at h; rw [h, HX.out]; exact HP.out
        case measure => simp [intOf]; omega
    · have z0 : decide ((k : Int) < (n : Int)) = false := by simp; omega
      go_wp2_with fail
      go_ret
      exact ⟨⟨-1, rfl, .inl ⟨rfl, fun x hx => HA.out x (by rw [List.take_of_length_le (by have := HN.out; omega)]; exact hx)⟩⟩, HM.out⟩
set_option maxHeartbeats 8000000 in
theorem deleteDown_any (b2 b3 : Nat) (p : Ar → Bool) (w : World) (base : Nat) (a : Option Addr) (n c : Nat) (xs : List Ar) (hn : xs.length = n) (ho : w.ownsRow base 50 4 (.slice a n c) n (xs.flatMap c4)) (hb : n ≤ 1000000)
    (hf : ∀ W (x : Ar), Mod (fun k => (Value.slice a n c).ownBlock = some k) w W → Calls Tryz.prog 65 #[.agg #[.int .i64 x.f, .int .i64 x.t, .int .i64 x.w, .int .i64 x.m], .pointer (some ⟨b2, 0, none⟩), .pointer (some ⟨b3, 0, none⟩)] W fun e w' => e = .returned (.bool (p x)) ∧ Mod (fun _ => False) W w') :
    Calls Tryz.prog 61 #[.slice a n c, .func (.func 65) #[] #[.pointer (some ⟨b2, 0, none⟩), .pointer (some ⟨b3, 0, none⟩)]] w fun e w' => (∃ a2 c2, e = .returned (.slice a2 (keptG p xs).length c2) ∧ Rd w' 4 (.slice a2 (keptG p xs).length c2) (keptG p xs).length ((keptG p xs).flatMap c4) ∧ ∀ k, (Value.slice a2 (keptG p xs).length c2).ownBlock = some k → (Value.slice a n c).ownBlock = some k) ∧ Mod (fun k => (Value.slice a n c).ownBlock = some k) w w' := by
  obtain ⟨iA, hiA, hzA, hsA, hbA⟩ := info_parts Nt.infoA
  have HF := Lib.hid hf
  have HN := Lib.hid hn
  have HO0 := Lib.hid ho
  clear hf hn
  go_enter Tryz.func61, Tryz.ntmps61
  go_wp2_with fail
  refine (indexDown_any b2 b3 p _ w a n c xs HN.out (Rd.ofOwn HO0.out) hb HF.out).mono ?_
  rintro e w1 ⟨⟨r, rfl, hr⟩, hm⟩
  have HM := Lib.hid hm
  clear hm
  rcases hr with ⟨rfl, hall⟩ | ⟨k, rfl, hk, hpk, hall⟩
  · have HA := Lib.hid hall
    clear hall ho
    go_wp2_with fail
    go_ret
    refine ⟨⟨a, c, ?_, ?_, fun k h => by cases a <;> exact h⟩, HM.out.mono (fun _ _ e => e.elim)⟩
    · rw [keptG_none HA.out, HN.out]; rfl
    · rw [keptG_none HA.out, HN.out]; exact (Rd.ofOwn HO0.out).keep HM.out (fun _ _ e => e)
  · have hkn : k < n := by rw [← HN.out]; exact hk
    obtain ⟨ob, c', hab, hlo, hlt⟩ := own_block ho (by omega)
    cases hab
    have hI0 := delG_start hk hpk hall
    have HI0 := Lib.hid hI0
    have hO := Lib.hid (Own.keep ho HM.out (fun _ _ e => e))
    clear hall hpk hI0 ho
    have z0 : ((k : Int) == -1) = false := by rw [beq_eq_false_iff_ne]; omega
    have HOB : Hid (∀ k, (Value.slice (some ⟨ob, 0, none⟩) n c).ownBlock = some k ↔ k = ob) := Lib.hid fun k => by simp [Value.ownBlock]; omega
    go_wp2_with fail
    go_loopw [5, 6] (fun i j wr => ∃ I J : Nat, i = .int .i64 I ∧ j = .int .i64 J ∧ ∃ ys, DelG p xs ys I J ∧ World.ownsRow wr base 50 4 (.slice (some ⟨ob, 0, none⟩) n c) n (ys.flatMap c4) ∧ Mod (fun k => k = ob) w wr) (fun _ j _ => n - (intOf j).toNat)
    case atStart => exact ⟨k, k + 1, rfl, by go_num, xs, HI0.out, hO.out, HM.out.mono (fun _ _ e => e.elim)⟩
    case round =>
      obtain ⟨I, J, rfl, rfl, ys, hI, hOw, hm⟩ := hrel
      obtain ⟨wo, hwo⟩ : ∃ x : World, x = wr := ⟨_, rfl⟩
      subst hwo
      have hJ : J ≤ n := by have := hI.2.1; have := HN.out; omega
      have hIJ : I < J := hI.2.2.1
      have hyl : ys.length = n := by rw [hI.1]; exact HN.out
      have HI := Lib.hid hI
      have HO := Lib.hid hOw
      have HMW := Lib.hid hm
      have HYL := Lib.hid hyl
      clear hI hOw hm hyl hO HI0
      by_cases hlt2 : J < n
      · have z1 : decide ((J : Int) < (n : Int)) = true := by simp; omega
        obtain ⟨hy, he⟩ := delG_at HI.out (by rw [HN.out]; exact hlt2)
        obtain ⟨eb, eo, hpl, e0, e1, e2, e3⟩ := rd4 (Rd.ofOwn HO.out) J hy
        have hix := fun wx => run_indexS (P := Tryz.prog) wx 34 50 iA 4 Tryz.underlying34 hiA hsA (some ⟨ob, 0, none⟩) n c J hlt2 (by simp)
        rw [hpl] at hix
        rw [he] at e0 e1 e2 e3
        obtain ⟨x, hx⟩ : ∃ x, xs[J]'(by rw [HN.out]; exact hlt2) = x := ⟨_, rfl⟩
        rw [hx] at e0 e1 e2 e3
        have HX := Lib.hid hx
        clear hx hpl he hy
        obtain ⟨b, hpb⟩ : ∃ b, p x = b := ⟨_, rfl⟩
        have HP := Lib.hid hpb
        clear hpb
        obtain ⟨xf, xt, xw, xm⟩ := x
        simp only at e0 e1 e2 e3
        go_upto_region 8 with fail
        obtain ⟨g, hg⟩ : ∃ y, wo.heap.size = y := ⟨_, rfl⟩
        obtain ⟨w5, hw5⟩ : ∃ y, wo.alloc (.cells #[.int .i64 xf, .int .i64 xt, .int .i64 xw, .int .i64 xm] 50) = y := ⟨_, rfl⟩
        have hg5 : Blk w5 g 50 [.int .i64 xf, .int .i64 xt, .int .i64 xw, .int .i64 xm] := by rw [← hw5, ← hg]; exact Blk.new wo 50 [.int .i64 xf, .int .i64 xt, .int .i64 xw, .int .i64 xm]
        have hm5 : Mod (fun _ => False) wo w5 := by rw [← hw5]; exact Mod.alloc _ _ _
        (try rw [hw5])
        (try rw [hg])
        have g0 := hg5.cell 0 rfl
        have g1 := hg5.cell 1 rfl
        have g2 := hg5.cell 2 rfl
        have g3 := hg5.cell 3 rfl
        have hcall := HF.out w5 ⟨xf, xt, xw, xm⟩ ((HMW.out.trans hm5 (H := fun k => k = ob) (fun _ _ e => e) (fun _ _ e => e.elim)).mono (fun i _ e => (HOB.out i).2 e))
        rw [HP.out] at hcall
        have HCL := Lib.hid hcall
        have hgo : g ≠ ob := by have := (HO.out.lt ob ((HOB.out ob).2 rfl)).2; omega
        have HG5 := Lib.hid hg5
        have HM5 := Lib.hid hm5
        clear hg hw5 hg5 hm5 e0 e1 e2 e3 hix hcall
        go_wp2_with fail
        refine HCL.out.mono ?_
        rintro e w2 ⟨rfl, hm2⟩
        have HM2 : Hid (Mod (fun k => k = ob) w w2) := Lib.hid ((HMW.out.trans HM5.out (H := fun k => k = ob) (fun _ _ e => e) (fun _ _ e => e.elim)).trans hm2 (fun _ _ e => e) (fun _ _ e => e.elim))
        have HO2 := Lib.hid (Own.keep (Own.keep HO.out HM5.out (fun _ _ e => e)) hm2 (fun _ _ e => e))
        have hg2 := HG5.out.keep hm2 (fun e => e)
        clear hm2 g0 g1 g2 g3 HCL
        cases b with
        | true =>
          clear hg2
          go_wp2_with fail
          go_roundw
          case rel => exact ⟨I, J + 1, rfl, by go_num, ys, delG_skip HI.out (by rw [HN.out]; exact hlt2) (by rw [HX.out]; exact HP.out), HO2.out, HM2.out⟩
          case measure => simp [intOf]; omega
        | false =>
          have hIn : I < n := by omega
          have hix2 := fun wx => run_indexS (P := Tryz.prog) wx 34 50 iA 4 Tryz.underlying34 hiA hsA (some ⟨ob, 0, none⟩) n c I hIn (by simp)
          rw [elemA_lit4] at hix2
          have g0 := hg2.cell 0 rfl
          have g1 := hg2.cell 1 rfl
          have g2 := hg2.cell 2 rfl
          have g3 := hg2.cell 3 rfl
          have hroom0 := Room.ofOwn HO2.out (I * 4) (by omega)
          have hroom1 := Room.ofOwn HO2.out (I * 4 + 1) (by omega)
          have hroom2 := Room.ofOwn HO2.out (I * 4 + 2) (by omega)
          have hroom3 := Room.ofOwn HO2.out (I * 4 + 3) (by omega)
          obtain ⟨v0, q0⟩ := hroom0.cell
          obtain ⟨v1, q1⟩ := hroom1.cell
          obtain ⟨v2, q2⟩ := hroom2.cell
          obtain ⟨v3, q3⟩ := hroom3.cell
          have f0 := hroom0.free
          have f1 := hroom1.free
          have f2 := hroom2.free
          have f3 := hroom3.free
          have hst := ((((((HO2.out.stored (I * 4) (.int .i64 xf)).1).stored (I * 4 + 1) (.int .i64 xt)).1).stored (I * 4 + 2) (.int .i64 xw)).1.stored (I * 4 + 3) (.int .i64 xm)).1
          have hsm : Mod (fun k => k = ob) w2 ((((w2.setCell ⟨ob, I * 4, none⟩ (.int .i64 xf)).setCell ⟨ob, I * 4 + 1, none⟩ (.int .i64 xt)).setCell ⟨ob, I * 4 + 2, none⟩ (.int .i64 xw)).setCell ⟨ob, I * 4 + 3, none⟩ (.int .i64 xm)) := (((Mod.setCell (F := fun k => k = ob) _ _ _ rfl).trans (Mod.setCell (F := fun k => k = ob) _ _ _ rfl) (fun _ _ e => e) (fun _ _ e => e)).trans (Mod.setCell (F := fun k => k = ob) _ _ _ rfl) (fun _ _ e => e) (fun _ _ e => e)).trans (Mod.setCell (F := fun k => k = ob) _ _ _ rfl) (fun _ _ e => e) (fun _ _ e => e)
          have h4 := c4_set4 ys I (by rw [HYL.out]; exact hIn) ⟨xf, xt, xw, xm⟩
          simp only at h4
          rw [h4] at hst
          have HST := Lib.hid (And.intro hst (HM2.out.trans hsm (H := fun k => k = ob) (fun _ _ e => e) (fun _ _ e => e)))
          clear hst hsm h4 hroom0 hroom1 hroom2 hroom3 hg2
          go_wp2_with fail
          go_roundw
          case rel =>
            refine ⟨I + 1, J + 1, by go_num, by go_num, ys.set I ⟨xf, xt, xw, xm⟩, ?_, HST.out.1, HST.out.2⟩
            have h := delG_keep HI.out (by rw [HN.out]; exact hlt2) (by rw [HX.out]; exact HP.out)
            rw [HX.out] at h; exact h
          case measure => simp [intOf]; omega
      · obtain rfl : J = n := by omega
        have z1 : decide ((J : Int) < (J : Int)) = false := by simp
        have hE := delG_end (show DelG p xs ys I xs.length by rw [HN.out]; exact HI.out)
        obtain ⟨h1, h2, h3⟩ := hE
        have h4 : I < J := by rw [← HN.out]; exact h3
        have H1 := Lib.hid h1
        have H2 := Lib.hid h2
        have hcap : J ≤ c := by obtain ⟨_, h | ⟨g, cap, cur, he, _, _, hc, _⟩⟩ := HO.out; exact absurd h.1 (by simp); cases he; exact hc
        have hsl := fun wx => run_dropS (P := Tryz.prog) wx 34 50 iA 4 Tryz.underlying34 hiA hsA (some ⟨ob, 0, none⟩) J c I (by omega)
        have hdr : dropA (some ⟨ob, 0, none⟩) c I 4 = some ⟨ob, I * 4, none⟩ := by unfold dropA; rw [if_neg (by omega)]; show some (Addr.add _ _) = _; rw [Addr.add_lit, Nat.zero_add]
        rw [hdr] at hsl
        have hzv : ∀ w : World, (zeroValue 50).run Tryz.prog w = .ok (.agg #[.int .i64 0, .int .i64 0, .int .i64 0, .int .i64 0]) w := fun w => by kernel_rfl
        have hcl := fun ty => run_clear_arcs (P := Tryz.prog) wo 34 50 ty Tryz.underlying34 hzv ob (I * 4) (J - I) (c - I) (by omega) (fun j hj => by obtain ⟨v, hv⟩ := (Room.ofOwn HO.out (I * 4 + j) (by omega)).cell; rw [hv]; rfl) (fun j hj => (Room.ofOwn HO.out (I * 4 + j) (by omega)).free)
        have htk := fun wx => run_takeS (P := Tryz.prog) wx 34 50 iA Tryz.underlying34 hiA (some ⟨ob, 0, none⟩) J c I (by omega)
        clear h1 h2 h3 hdr hzv
        go_wp2_with fail
        go_ret
        refine ⟨⟨some ⟨ob, 0, none⟩, c, by rw [← H2.out]; rfl, ?_, fun k h => (HOB.out k).2 (Option.some.inj h).symm⟩, (HMW.out.trans (Mod.setCellsG _ _ _) (fun i _ e => (HOB.out i).2 e) (fun i _ e => (HOB.out i).2 e))⟩
        rw [← H2.out, ← H1.out]
        exact rd_cleared4 HO.out (by omega)
/-- The arcs that go Up. -/
def upV (n : Nat) (T : List Ar) (V : List Nat) (v : Int) : List Ar := keptG (fun a => decide (rankV n V a.t ≤ rankV n V v)) (outL T v)
/-- What Up tells. -/
def UpP (n : Nat) (T : List Ar) (V : List Nat) (v : Int) (w : World) (e : Ending) (w' : World) : Prop := ∃ a c, e = .returned (.slice a (upV n T V v).length c) ∧ Rd w' 4 (.slice a (upV n T V v).length c) (upV n T V v).length ((upV n T V v).flatMap c4) ∧ Mod (fun _ => False) w w'
/-- The same, and that it lies in new memory. -/
def Up2P (n : Nat) (T : List Ar) (V : List Nat) (v : Int) (w : World) (e : Ending) (w' : World) : Prop := ∃ a c, e = .returned (.slice a (upV n T V v).length c) ∧ Rd w' 4 (.slice a (upV n T V v).length c) (upV n T V v).length ((upV n T V v).flatMap c4) ∧ (∀ k, (Value.slice a (upV n T V v).length c).ownBlock = some k → w.heap.size ≤ k) ∧ Mod (fun _ => False) w w'
set_option maxHeartbeats 4000000 in
theorem lv_up2 {w : World} {p n : Nat} {T : List Ar} {V : List Nat} {F : Nat → Prop} (h : LO w p n T V F) (v : Int) : Calls Tryz.prog 21 #[.pointer (some ⟨p, 0, none⟩), .int .i64 v] w (Up2P n T V v w) := by
  obtain ⟨w1, hw1⟩ : ∃ y, w.alloc (.cells #[.pointer (some ⟨p, 0, none⟩)] 24) = y := ⟨_, rfl⟩
  obtain ⟨w2, hw2⟩ : ∃ y, w1.alloc (.cells #[.int .i64 v] 3) = y := ⟨_, rfl⟩
  have hm1 : Mod (fun _ => False) w w1 := by rw [← hw1]; exact Mod.alloc _ _ _
  have hm2 : Mod (fun _ => False) w1 w2 := by rw [← hw2]; exact Mod.alloc _ _ _
  have hz1 : w1.heap.size = w.heap.size + 1 := by rw [← hw1]; exact heap_size_alloc _ _
  have hb1 : Blk w1 w.heap.size 24 [.pointer (some ⟨p, 0, none⟩)] := by rw [← hw1]; exact Blk.new w 24 [.pointer (some ⟨p, 0, none⟩)]
  have hb2 : Blk w2 w1.heap.size 3 [.int .i64 v] := by rw [← hw2]; exact Blk.new w1 3 [.int .i64 v]
  have hb3 := hb1.keep hm2 (fun e => e)
  have hl2 := h.later (hm1.of2 hm2)
  have hln : (outL T v).length ≤ 1000000 := by
    obtain ⟨tl, rd, mb, FT, hlv, _⟩ := h
    have h1 := outL_len hlv.net.ok v
    have h2 := hlv.net.n512
    omega
  obtain ⟨tl, rd, mb, FT, hlv, hFe⟩ := id hl2
  have q0 := hlv.blk.cell 0 rfl
  have c1 := hb3.cell 0 rfl
  have c2 := hb2.cell 0 rfl
  have HL := Lib.hid (And.intro hl2 (And.intro h.lt (And.intro (hm1.of2 hm2) (And.intro hlv (And.intro hb3 hb2)))))
  have hzw := (hm1.of2 hm2).size
  clear h hl2 hlv hFe hm1 hm2 hb1 hb2 hb3
  go_enter Tryz.func21, Tryz.ntmps21
  go_upto_region 3 with fail
  (try rw [hw1])
  (try rw [hw2])
  rw [hz1] at c2
  clear hw1 hw2
  go_region_law (first
    | (go_simp; go_at_call 39; refine (nt_out (HL.out.2.2.2.1.net.later (by first | exact Mod.drew _ _ | exact Mod.refl _ _)) v).mono ?_; rintro e w3 ⟨a3, c3, rfl, ho3, hm3⟩; have H3 := Lib.hid (And.intro ho3 ((Mod.drew (fun _ => False) _).of2 hm3)); clear ho3 hm3)
    | (go_simp; go_at_call 61; refine (deleteUp_any _ _ (fun a => decide (rankV n V a.t ≤ rankV n V v)) w3 _ a3 (outL T v).length c3 (outL T v) rfl H3.out.1 hln (fun W x hW => up1_any ((HL.out.1.later H3.out.2).keep hW (fun k hk e => by have h1 := (H3.out.1.lt k e).1; have h2 := HL.out.2.1 k hk; have h3 : (World.drew w2).heap.size = w2.heap.size := rfl; omega)) v (hW.cell (H3.out.2.cell c1 (fun e => e)) (fun e => by have h1 : (World.drew w2).heap.size ≤ w.heap.size := (H3.out.1.lt _ e).1; have h2 := HL.out.2.2.2.2.1.lt; have h3 : (World.drew w2).heap.size = w2.heap.size := rfl; omega)) (hW.cell (H3.out.2.cell c2 (fun e => e)) (fun e => by have h1 : (World.drew w2).heap.size ≤ w.heap.size + 1 := (H3.out.1.lt _ e).1; have h2 := HL.out.2.2.2.2.2.lt; have h3 : (World.drew w2).heap.size = w2.heap.size := rfl; omega)) x)).mono ?_; rintro e w4 ⟨⟨a4, c4', rfl, hr4, hk4⟩, hm4⟩; have H4 := Lib.hid (And.intro hr4 (And.intro hm4 hk4)); clear hr4 hm4 hk4))
  all_goals
    (try go_wp2_with fail)
    go_ret
    refine ⟨a4, c4', rfl, H4.out.1, fun k e => (by have h1 := (H3.out.1.lt k (H4.out.2.2 k e)).1; have h3 : (World.drew w2).heap.size = w2.heap.size := rfl; omega), ((HL.out.2.2.1.of2 H3.out.2).trans H4.out.2.1 (H := fun _ => False) (fun _ _ e => e) (fun k hk e => ?_))⟩
    have h1 := (H3.out.1.lt k e).1
    have h3 : (World.drew w2).heap.size = w2.heap.size := rfl
    omega
theorem lv_up {w : World} {p n : Nat} {T : List Ar} {V : List Nat} {F : Nat → Prop} (h : LO w p n T V F) (v : Int) : Calls Tryz.prog 21 #[.pointer (some ⟨p, 0, none⟩), .int .i64 v] w (UpP n T V v w) := (lv_up2 h v).mono fun e w' ⟨a, c, h1, h2, _, h3⟩ => ⟨a, c, h1, h2, h3⟩
/-- The arcs that go Down. -/
def downV (n : Nat) (T : List Ar) (V : List Nat) (v : Int) : List Ar := keptG (fun a => decide (rankV n V a.f ≤ rankV n V v)) (inL T v)
/-- The same, and that it lies in new memory. -/
def Down2P (n : Nat) (T : List Ar) (V : List Nat) (v : Int) (w : World) (e : Ending) (w' : World) : Prop := ∃ a c, e = .returned (.slice a (downV n T V v).length c) ∧ Rd w' 4 (.slice a (downV n T V v).length c) (downV n T V v).length ((downV n T V v).flatMap c4) ∧ (∀ k, (Value.slice a (downV n T V v).length c).ownBlock = some k → w.heap.size ≤ k) ∧ Mod (fun _ => False) w w'
set_option maxHeartbeats 4000000 in
theorem lv_down2 {w : World} {p n : Nat} {T : List Ar} {V : List Nat} {F : Nat → Prop} (h : LO w p n T V F) (v : Int) : Calls Tryz.prog 23 #[.pointer (some ⟨p, 0, none⟩), .int .i64 v] w (Down2P n T V v w) := by
  obtain ⟨w1, hw1⟩ : ∃ y, w.alloc (.cells #[.pointer (some ⟨p, 0, none⟩)] 24) = y := ⟨_, rfl⟩
  obtain ⟨w2, hw2⟩ : ∃ y, w1.alloc (.cells #[.int .i64 v] 3) = y := ⟨_, rfl⟩
  have hm1 : Mod (fun _ => False) w w1 := by rw [← hw1]; exact Mod.alloc _ _ _
  have hm2 : Mod (fun _ => False) w1 w2 := by rw [← hw2]; exact Mod.alloc _ _ _
  have hz1 : w1.heap.size = w.heap.size + 1 := by rw [← hw1]; exact heap_size_alloc _ _
  have hb1 : Blk w1 w.heap.size 24 [.pointer (some ⟨p, 0, none⟩)] := by rw [← hw1]; exact Blk.new w 24 [.pointer (some ⟨p, 0, none⟩)]
  have hb2 : Blk w2 w1.heap.size 3 [.int .i64 v] := by rw [← hw2]; exact Blk.new w1 3 [.int .i64 v]
  have hb3 := hb1.keep hm2 (fun e => e)
  have hl2 := h.later (hm1.of2 hm2)
  have hln : (inL T v).length ≤ 1000000 := by
    obtain ⟨tl, rd, mb, FT, hlv, _⟩ := h
    have h1 := inL_len hlv.net.ok v
    have h2 := hlv.net.n512
    omega
  obtain ⟨tl, rd, mb, FT, hlv, hFe⟩ := id hl2
  have q0 := hlv.blk.cell 0 rfl
  have c1 := hb3.cell 0 rfl
  have c2 := hb2.cell 0 rfl
  have HL := Lib.hid (And.intro hl2 (And.intro h.lt (And.intro (hm1.of2 hm2) (And.intro hlv (And.intro hb3 hb2)))))
  have hzw := (hm1.of2 hm2).size
  clear h hl2 hlv hFe hm1 hm2 hb1 hb2 hb3
  go_enter Tryz.func23, Tryz.ntmps23
  go_upto_region 3 with fail
  (try rw [hw1])
  (try rw [hw2])
  rw [hz1] at c2
  clear hw1 hw2
  go_region_law (first
    | (go_simp; go_at_call 64; refine (nt_in (HL.out.2.2.2.1.net.later (by first | exact Mod.drew _ _ | exact Mod.refl _ _)) v).mono ?_; rintro e w3 ⟨a3, c3, rfl, ho3, hm3⟩; have H3 := Lib.hid (And.intro ho3 ((Mod.drew (fun _ => False) _).of2 hm3)); clear ho3 hm3)
    | (go_simp; go_at_call 61; refine (deleteDown_any _ _ (fun a => decide (rankV n V a.f ≤ rankV n V v)) w3 _ a3 (inL T v).length c3 (inL T v) rfl H3.out.1 hln (fun W x hW => down1_any ((HL.out.1.later H3.out.2).keep hW (fun k hk e => by have h1 := (H3.out.1.lt k e).1; have h2 := HL.out.2.1 k hk; have h3 : (World.drew w2).heap.size = w2.heap.size := rfl; omega)) v (hW.cell (H3.out.2.cell c1 (fun e => e)) (fun e => by have h1 : (World.drew w2).heap.size ≤ w.heap.size := (H3.out.1.lt _ e).1; have h2 := HL.out.2.2.2.2.1.lt; have h3 : (World.drew w2).heap.size = w2.heap.size := rfl; omega)) (hW.cell (H3.out.2.cell c2 (fun e => e)) (fun e => by have h1 : (World.drew w2).heap.size ≤ w.heap.size + 1 := (H3.out.1.lt _ e).1; have h2 := HL.out.2.2.2.2.2.lt; have h3 : (World.drew w2).heap.size = w2.heap.size := rfl; omega)) x)).mono ?_; rintro e w4 ⟨⟨a4, c4', rfl, hr4, hk4⟩, hm4⟩; have H4 := Lib.hid (And.intro hr4 (And.intro hm4 hk4)); clear hr4 hm4 hk4))
  all_goals
    (try go_wp2_with fail)
    go_ret
    refine ⟨a4, c4', rfl, H4.out.1, fun k e => (by have h1 := (H3.out.1.lt k (H4.out.2.2 k e)).1; have h3 : (World.drew w2).heap.size = w2.heap.size := rfl; omega), ((HL.out.2.2.1.of2 H3.out.2).trans H4.out.2.1 (H := fun _ => False) (fun _ _ e => e) (fun k hk e => ?_))⟩
    have h1 := (H3.out.1.lt k e).1
    have h3 : (World.drew w2).heap.size = w2.heap.size := rfl
    omega
end Go.Proofs.YtjjedebjbgpimaaGreat
