/- The document's own sums over a net, by contract. -/
import Derived.Test.YtjjedebjbgpimaaGreatRWit
import Derived.Test.YtjjedebjbgpimaaGreatRN4
namespace Go.Proofs.YtjjedebjbgpimaaGreat
open Go.RowKit Mile
set_option maxRecDepth 100000
theorem own_at {w : World} {B rb m c : Nat} {d : List Int} (h : w.ownsRow B 3 1 (.slice (some ⟨rb, 0, none⟩) m c) m (d.map (Value.int .i64))) (i : Nat) (hi : i < m) : w.cell? ⟨rb, i, none⟩ = some (.int .i64 (dAt d i)) := by
 have hl : d.length = m := by have := h.1; simpa using this
 have := (Rd.ofOwn h).at_ (i := i) (u := .int .i64 (dAt d i)) (by rw [dAt_eq d i (by omega)]; simp [hl, hi])
 simpa using this
theorem own_ix (iI : TypeInfo) (hiI : Tryz.prog.info? 3 = some iI) (hsI : iI.size = 1) (rb m i : Nat) (hi : i < m) (wx : World) : (Instr.indexAt 40 (.slice (some ⟨rb, 0, none⟩) m m) (.int .i64 (i : Int))).run Tryz.prog wx = .ok (.pointer (some ⟨rb, i, none⟩)) wx := by
 have h := run_indexS (P := Tryz.prog) wx 40 3 iI 1 Tryz.underlying40 hiI hsI (some ⟨rb, 0, none⟩) m m i hi (by simp)
 have hp := (show elemA (some ⟨rb, 0, none⟩) i 1 = ⟨rb, i, none⟩ by unfold elemA; rw [Option.getD_some, Addr.add_lit, Nat.zero_add, Nat.mul_one])
 rw [hp] at h; exact h
def fillD (m i : Nat) : List Int := List.replicate i (-1) ++ List.replicate (m - i) 0
theorem fillD_zero (m : Nat) : fillD m 0 = List.replicate m 0 := by simp [fillD]
theorem fillD_all (m : Nat) : fillD m m = List.replicate m (-1) := by simp [fillD]
theorem fillD_set (m i : Nat) (h : i < m) : (fillD m i).set i (-1) = fillD m (i + 1) := by
 unfold fillD
 obtain ⟨j, hj⟩ : ∃ j, m - i = j + 1 := ⟨m - i - 1, by omega⟩
 rw [hj, show m - (i + 1) = j by omega, List.replicate_succ, List.set_append_right _ _ (by simp), List.length_replicate, Nat.sub_self, List.set_cons_zero, List.replicate_succ', List.append_assoc]
 rfl
/-- A row of -1 is how far, from nowhere. -/
theorem fix_none {n : Nat} {L : List Ar} {fr wo : Int} {d : List Int} (hf : Fix (netW n L fr wo) d) (hs : ∀ e : Nat, (netW n L fr wo).st e → e < n → False) : d = List.replicate n (-1) := by
 have hl : d.length = n := hf.len
 apply List.ext_getElem (by simp [hl])
 intro i h1 h2
 have h3 := hf.none hs (dAt d i).toNat i (by omega)
 have h4 := hf.low i
 rw [← dAt_eq d i h1, List.getElem_replicate]; omega
theorem start_row {n : Nat} {L : List Ar} {fr : Nat} (hn : fr < n) : BF (netW n L (fr : Int) (-1)) ((List.replicate n (-1 : Int)).set fr 0) := by
 have h := BF.begin (netW n L (fr : Int) (-1)) (fun e => decide (e = fr)) (fun e => by show ((e : Int) = (fr : Int) ∧ (fr : Int) ≠ -1) ↔ _; simp only [decide_eq_true_eq]; omega)
 have he : inZ (fun e => decide (e = fr)) n n = (List.replicate n (-1 : Int)).set fr 0 := by
  apply List.ext_getElem (by rw [inZ_len _ _ _ (Nat.le_refl _)]; simp)
  intro i h1 h2
  have h3 : i < n := by simpa using h2
  have := inZ_at (fun e => decide (e = fr)) n i h3
  rw [dAt_eq _ i h1] at this
  rw [this, List.getElem_set, List.getElem_replicate]
  by_cases hc : i = fr
  ·
   subst hc; simp
  ·
   simp [hc, Ne.symm hc]
 have hm : (netW n L (fr : Int) (-1)).m = n := rfl
 rw [hm, he] at h; exact h
/-- The first arcs are kept. -/
def okA (L : List Ar) (d : List Int) (j : Nat) : Prop := ∀ i (h : i < L.length), i < j → 0 ≤ dAt d L[i].f.toNat → 0 ≤ dAt d L[i].t.toNat ∧ dAt d L[i].t.toNat ≤ dAt d L[i].f.toNat + L[i].w
theorem okA_step {L : List Ar} {d : List Int} {j : Nat} (h : okA L d j) (hj : j < L.length) (hs : 0 ≤ dAt d L[j].f.toNat → 0 ≤ dAt d L[j].t.toNat ∧ dAt d L[j].t.toNat ≤ dAt d L[j].f.toNat + L[j].w) : okA L d (j + 1) := fun i hi hij hb => by
 rcases Nat.lt_or_ge i j with h1 | h1
 ·
  exact h i hi h1 hb
 ·
  obtain rfl : i = j := by omega
  exact hs hb
theorem okA_all {n : Nat} {L : List Ar} {fr wo : Int} {d : List Int} (h : okA L d L.length) (hb : BF (netW n L fr wo) d) : Fix (netW n L fr wo) d := hb.done fun e b hr h0 => by
 obtain ⟨a, ha, ht, hf, _, hw⟩ := netW_inv hr
 obtain ⟨i, hi, rfl⟩ := List.getElem_of_mem ha
 have e1 : L[i].f.toNat = b := by omega
 have e2 : L[i].t.toNat = e := by omega
 have := h i hi hi (by rw [e1]; exact h0)
 rw [e1, e2] at this
 rw [hw]; exact this
set_option maxHeartbeats 16000000 in
theorem rn_all {w : World} {q n : Nat} {L : List Ar} (h : RN w q n L) (hok : NetOk n L) (hw : ∀ a ∈ L, a.w ≤ 1099511627776) (h512 : n ≤ 512) (hb : L.length ≤ 10000) (fr : Int) (d : List Int) (hf : Fix (netW n L fr (-1)) d) :
  Calls Tryz.prog 29 #[.pointer (some ⟨q, 0, none⟩), .int .i64 fr] w (NewR 3 1 n (d.map (Value.int .i64)) w) := by
 obtain ⟨iI, hiI, hzI, hsI, hbI⟩ := info_parts Nt.infoI
 obtain ⟨iA, hiA, hzA, hsA, hbA⟩ := info_parts Nt.infoA
 obtain ⟨a, c, hblk, hrd, hap⟩ := h
 have q0 := hblk.cell 0 rfl
 have q1 := hblk.cell 1 rfl
 obtain ⟨la, hla⟩ : ∃ k, L.length = k := ⟨_, rfl⟩
 rw [hla] at q1 hrd hb
 have hqlt := hblk.lt
 have hmk := run_makeS (P := Tryz.prog) 40 3 iI (.int .i64 0) Tryz.underlying40 hiI hzI rfl hsI n (by rw [hbI]; omega) (by omega) w
 have ho0 := own_zrow w 3 (.int .i64 0) n w.heap.size rfl (by omega)
 obtain ⟨rb, hrb⟩ : ∃ b, w.heap.size = b := ⟨_, rfl⟩
 obtain ⟨w1, hw1⟩ : ∃ W, w.alloc (.cells (zrow (.int .i64 0) n) 3) = W := ⟨_, rfl⟩
 have hm1 : Mod (fun _ => False) w w1 := by rw [← hw1]; exact Mod.alloc _ _ _
 rw [hw1, hrb] at hmk ho0
 have hd0 : World.ownsRow w1 0 3 1 (.slice (some ⟨rb, 0, none⟩) n n) n ((fillD n 0).map (Value.int .i64)) := by rw [fillD_zero, List.map_replicate]; exact ho0
 have hsub : IntKind.i64.wrap ((n : Int) - 1) = (n : Int) - 1 := IntWalk.i64_in _ (by omega)
 have HRB := Lib.hid hrb
 have HB := Lib.hid hblk
 have HR := Lib.hid hrd
 have HLA := Lib.hid hla
 have HOK := Lib.hid hok
 have HW := Lib.hid hw
 have HF := Lib.hid hf
 have HD0 := Lib.hid hd0
 have HM1 := Lib.hid hm1
 have hqrb : q ≠ rb := by omega
 have HQ := Lib.hid hqrb
 clear hblk hrd hok hw hf hd0 hm1 ho0 hap hla hqrb hw1 hrb hqlt
 go_enter Tryz.func29, Tryz.ntmps29
 go_wp2_with fail
 clear hmk q0 q1
 go_loopw [6] (fun i wr => ∃ k : Nat, k ≤ n ∧ i = .int .i64 (k : Int) ∧ World.ownsRow wr 0 3 1 (.slice (some ⟨rb, 0, none⟩) n n) n ((fillD n k).map (Value.int .i64)) ∧ Mod (fun _ => False) w wr) (fun i _ => n - (intOf i).toNat)
 case atStart => exact ⟨0, Nat.zero_le _, rfl, HD0.out, HM1.out⟩
 case round =>
  obtain ⟨k, hk, rfl, hrow, hmr⟩ := hrel
  obtain ⟨wo, hwo⟩ : ∃ x : World, x = wr := ⟨_, rfl⟩
  subst hwo
  have q0 := (HB.out.keep hmr (fun e => e)).cell 0 rfl
  have HROW := Lib.hid hrow
  have HMR := Lib.hid hmr
  clear hmr
  by_cases hkn : k < n
  case pos =>
   have z0 : decide ((k : Int) < (n : Int)) = true := by simp; omega
   have z0n : decide (k < n) = true := by simp; omega
   have hix := fun wx => own_ix iI hiI hsI rb n k hkn wx
   have hroom := Room.ofOwn hrow k (by omega)
   have q3 := hroom.free
   have q4 := own_at hrow k hkn
   have hst := (hrow.stored k (.int .i64 (-1))).1
   rw [← List.map_set, fillD_set n k hkn] at hst
   have hj1 : IntKind.i64.wrap ((k : Int) + 1) = ((k + 1 : Nat) : Int) := by rw [IntWalk.i64_in _ (by omega)]; omega
   have HST := Lib.hid hst
   have hms : Mod (fun i => i = rb) wo (wo.setCell ⟨rb, k, none⟩ (.int .i64 (-1))) := Mod.setCell _ _ _ rfl
   have HMS : Hid (Mod (fun _ => False) w (wo.setCell ⟨rb, k, none⟩ (.int .i64 (-1)))) := Lib.hid (HMR.out.trans hms (fun _ _ e => e) (fun i hi e => by have h1 := HRB.out; have h2 : i = rb := e; omega))
   clear hrow hroom hst hms
   go_wp2_with fail
   go_roundw
   case rel => exact ⟨k + 1, hkn, by go_num, HST.out, HMS.out⟩
   case measure => simp [intOf]; omega
  case neg =>
   obtain rfl : k = n := by omega
   have z0 : decide ((k : Int) < (k : Int)) = false := by simp
   have z0n : decide (k < k) = false := by simp
   clear hrow
   go_wp2_with fail
   refine (rnw_any fr 0 ((k : Int) - 1) _).mono ?_
   rintro e w2 ⟨rfl, rfl⟩
   by_cases hfr : 0 ≤ fr ∧ fr ≤ (k : Int) - 1
   case neg =>
    rw [decide_eq_false hfr]
    have hd := fix_none HF.out (fun e he hm => hfr (by have h1 : (e : Int) = fr := he.1; omega))
    have HDN := Lib.hid hd
    clear hfr hd
    go_wp2_with fail
    go_ret
    exact ⟨_, _, rfl, by rw [HDN.out, ← fillD_all]; exact Own.rebase HROW.out (low_lit (by have := HRB.out; omega)), HMR.out⟩
   case pos =>
    rw [decide_eq_true hfr]
    obtain ⟨f, rfl⟩ := Int.eq_ofNat_of_zero_le hfr.1
    have hfn : f < k := by omega
    have hix := fun wx => own_ix iI hiI hsI rb k f hfn wx
    have hroom := Room.ofOwn HROW.out f (by omega)
    have q3 := hroom.free
    have q4 := own_at HROW.out f hfn
    have hst := (HROW.out.stored f (.int .i64 0)).1
    rw [← List.map_set, fillD_all k] at hst
    have hms : Mod (fun i => i = rb) wo (wo.setCell ⟨rb, f, none⟩ (.int .i64 0)) := Mod.setCell _ _ _ rfl
    have HST := Lib.hid hst
    have HMS : Hid (Mod (fun _ => False) w (wo.setCell ⟨rb, f, none⟩ (.int .i64 0))) := Lib.hid (HMR.out.trans hms (fun _ _ e => e) (fun i hi e => by have h1 := HRB.out; have h2 : i = rb := e; omega))
    have HBF := Lib.hid (start_row (L := L) hfn)
    clear hroom hst hms hfr
    go_wp2_with fail
    clear q3 q4 q0 hix
    go_loopw [7] (fun ag wr => ∃ (d : List Int) (gb : Bool), ag = .bool gb ∧ BF (netW k L (f : Int) (-1)) d ∧ (gb = false → Fix (netW k L (f : Int) (-1)) d) ∧ World.ownsRow wr 0 3 1 (.slice (some ⟨rb, 0, none⟩) k k) k ((d).map (Value.int .i64)) ∧ Mod (fun _ => False) w wr) (fun ag wr => 2 * pot (rowW rb k wr) + (match ag with | .bool true => 1 | _ => 0))
    case atStart => exact ⟨_, true, rfl, HBF.out, (fun h => by cases h), HST.out, HMS.out⟩
    case round =>
     obtain ⟨dd, gb, rfl, hbf, hfx, hrow, hmr⟩ := hrel
     have HPW := Lib.hid (rowW_eq hrow)
     have HBF := Lib.hid hbf
     have HFX := Lib.hid hfx
     have HROW := Lib.hid hrow
     have HMR := Lib.hid hmr
     clear hbf hfx hrow hmr
     cases gb with
     | false =>
      go_wp2_with fail
      go_ret
      have hdd := (HFX.out (by simp)).uniq HF.out
      subst hdd
      exact ⟨_, _, rfl, Own.rebase HROW.out (low_lit (by have := HRB.out; omega)), HMR.out⟩
     | true =>
      go_wp2_with fail
      go_loopw [7, 8] (fun ag i wr => ∃ (j : Nat) (dz : List Int) (gb : Bool), j ≤ la ∧ i = .int .i64 (j : Int) ∧ ag = .bool gb ∧ BF (netW k L (f : Int) (-1)) dz ∧ (gb = false → dz = dd ∧ okA L dz j) ∧ (gb = true → pot dz < pot dd) ∧ World.ownsRow wr 0 3 1 (.slice (some ⟨rb, 0, none⟩) k k) k ((dz).map (Value.int .i64)) ∧ Mod (fun _ => False) w wr) (fun _ i _ => la - (intOf i).toNat)
      case atStart => exact ⟨0, dd, false, Nat.zero_le _, rfl, rfl, HBF.out, fun _ => ⟨rfl, fun i hi hij => by omega⟩, (fun h => by cases h), HROW.out, HMR.out⟩
      case round =>
       clear HROW HMR HBF
       obtain ⟨j, dz, gb, hj, rfl, rfl, hbf, hq, hp, hrow, hmr⟩ := hrel
       obtain ⟨wp, hwp⟩ : ∃ x : World, x = wr := ⟨_, rfl⟩
       subst hwp
       have q1 := (HB.out.keep hmr (fun e => e)).cell 1 rfl
       have hrd := HR.out.keep hmr (fun _ _ e => e)
       have HP2 := Lib.hid (rowW_eq hrow)
       have HBF := Lib.hid hbf
       have HQQ := Lib.hid hq
       have HPO := Lib.hid hp
       have HROW := Lib.hid hrow
       have HMR := Lib.hid hmr
       clear hbf hq hp hrow hmr
       rw [HLA.out] at q1
       by_cases hlt : j < la
       case neg =>
        obtain rfl : j = la := by omega
        have z0 : decide ((j : Int) < (j : Int)) = false := by simp
        have z0n : decide (j < j) = false := by simp
        clear hrd
        cases gb with
        | false =>
         go_wp2_with fail
         go_roundw
         case rel => exact ⟨dz, false, rfl, HBF.out, fun _ => okA_all (by rw [HLA.out]; exact (HQQ.out rfl).2) HBF.out, HROW.out, HMR.out⟩
         case measure => rw [HP2.out, HPW.out, (HQQ.out (by simp)).1]; dsimp only; omega
        | true =>
         go_wp2_with fail
         go_roundw
         case rel => exact ⟨dz, true, rfl, HBF.out, fun h => (by cases h), HROW.out, HMR.out⟩
         case measure => rw [HP2.out, HPW.out]; have := HPO.out (by simp); dsimp only; omega
       case pos =>
        have z0 : decide ((j : Int) < (la : Int)) = true := by simp; omega
        have z0n : decide (j < la) = true := by simp; omega
        have hjl : j < L.length := by rw [HLA.out]; exact hlt
        obtain ⟨ab, ao, hpl, e0, e1, e2, e3⟩ := rd4 hrd j hjl
        have hixa := fun wx => run_indexS (P := Tryz.prog) wx 34 50 iA 4 Tryz.underlying34 hiA hsA a la c j hlt (hrd.some_ (by omega))
        rw [hpl] at hixa
        have hmem : L[j] ∈ L := List.getElem_mem hjl
        have hmay := HOK.out.may _ hmem
        have hw5 := HW.out _ hmem
        obtain ⟨ar, har⟩ : ∃ x, L[j] = x := ⟨_, rfl⟩
        have HSTEP : Hid (∀ d, okA L d j → (0 ≤ dAt d ar.f.toNat → 0 ≤ dAt d ar.t.toNat ∧ dAt d ar.t.toNat ≤ dAt d ar.f.toNat + ar.w) → okA L d (j + 1)) := Lib.hid (fun d h1 h2 => okA_step h1 hjl (by rw [har]; exact h2))
        rw [har] at hmem hmay hw5 e0 e1 e2 e3
        unfold mayA at hmay
        obtain ⟨af, haf⟩ := Int.eq_ofNat_of_zero_le hmay.1
        obtain ⟨at_, hat⟩ := Int.eq_ofNat_of_zero_le hmay.2.2.1
        have hafn : af < k := by omega
        have hatn : at_ < k := by omega
        have haw : 0 ≤ ar.w ∧ ar.w ≤ 1099511627776 := by omega
        have hrl := netW_rl (fr := (f : Int)) (wo := -1) HOK.out HW.out hmem hat haf (by omega)
        have hwt := netW_wt (n := k) (fr := (f : Int)) (wo := -1) HOK.out.sort hmem hat haf
        rw [haf] at e0
        rw [hat] at e1
        obtain ⟨wz, hwz⟩ : ∃ z, ar.w = z := ⟨_, rfl⟩
        obtain ⟨mz, hmz⟩ : ∃ z, ar.m = z := ⟨_, rfl⟩
        rw [hwz] at e2 hwt haw
        rw [hmz] at e3
        have htp := HBF.out.top h512
        have ht1 := htp af
        have ht2 := htp at_
        have hl1 := HBF.out.low af
        have hl2 := HBF.out.low at_
        obtain ⟨xs, hxs⟩ : ∃ x, dAt dz af = x := ⟨_, rfl⟩
        obtain ⟨xd, hxd⟩ : ∃ x, dAt dz at_ = x := ⟨_, rfl⟩
        have HST2 : Hid (∀ gb', okA L dz j → (0 ≤ xs → 0 ≤ xd ∧ xd ≤ xs + wz) → gb' = false → okA L dz (j + 1)) := Lib.hid (fun _ h1 h2 _ => HSTEP.out dz h1 (by rw [haf, hat, hwz, Int.toNat_natCast, Int.toNat_natCast, hxs, hxd]; exact h2))
        have qs := own_at HROW.out af hafn
        have qd := own_at HROW.out at_ hatn
        rw [hxs] at qs ht1 hl1
        rw [hxd] at qd ht2 hl2
        have hixs := fun wx => own_ix iI hiI hsI rb k af hafn wx
        have hixd := fun wx => own_ix iI hiI hsI rb k at_ hatn wx
        have hroom := Room.ofOwn HROW.out at_ (by omega)
        have qf := hroom.free
        have hj1 : IntKind.i64.wrap ((j : Int) + 1) = ((j + 1 : Nat) : Int) := by rw [IntWalk.i64_in _ (by omega)]; omega
        have hsum : 0 ≤ xs → IntKind.i64.wrap (xs + wz) = xs + wz := fun hx => IntWalk.i64_in _ (by omega)
        have HRX : Hid (0 ≤ xs → (xd < 0 ∨ xs + wz < xd) → BF (netW k L (f : Int) (-1)) (dz.set at_ (xs + wz)) ∧ pot (dz.set at_ (xs + wz)) < pot dz) := Lib.hid (fun h1 h2 => by
         have := HBF.out.relax h512 hrl (by rw [hxs]; exact h1) (by rw [hxs, hxd, hwt]; exact h2)
         rw [hxs, hwt] at this; exact this)
        have hblt := HROW.out
        have hrblt : rb < wp.heap.size := by have := qs; exact World.block_lt_of_cell? _ _ this
        clear htp hrl hwt hxs hxd hmem hmay hw5 har hpl hafn hroom hrd hblt HSTEP haf hat hwz hmz
        go_upto_region 16 with fail
        obtain ⟨g, hg⟩ : ∃ y, wp.heap.size = y := ⟨_, rfl⟩
        obtain ⟨w2, hw2⟩ : ∃ y, wp.alloc (.cells #[.int .i64 (af : Int), .int .i64 (at_ : Int), .int .i64 wz, .int .i64 mz] 50) = y := ⟨_, rfl⟩
        have hgb : Blk w2 g 50 [.int .i64 (af : Int), .int .i64 (at_ : Int), .int .i64 wz, .int .i64 mz] := by rw [← hw2, ← hg]; exact Blk.new wp 50 [.int .i64 (af : Int), .int .i64 (at_ : Int), .int .i64 wz, .int .i64 mz]
        have hm2 : Mod (fun _ => False) wp w2 := by rw [← hw2]; exact Mod.alloc _ _ _
        have g0 := hgb.cell 0 rfl
        have g1 := hgb.cell 1 rfl
        have g2 := hgb.cell 2 rfl
        replace qs := hm2.cell qs (fun e => e)
        replace qd := hm2.cell qd (fun e => e)
        have qf2 : w2.frozen? ⟨rb, at_, none⟩ = false := (Room.ofOwn (Own.keep HROW.out hm2 (fun _ _ e => e)) at_ (by omega)).free
        have HROW2 := Lib.hid (Own.keep HROW.out hm2 (fun _ _ e => e))
        have HMR2 := Lib.hid (HMR.out.of2 hm2)
        (try rw [hw2])
        (try rw [hg])
        clear hw2 hg hm2 e0 e1 e2 e3 q1 hixa hgb qf hrblt z0 z0n
        by_cases hx0 : xs < 0
        case pos =>
         have z1 : decide (0 ≤ xs) = false := decide_eq_false (by omega)
         have HX0 := Lib.hid hx0
         clear hx0 hsum
         go_quiet (fail)
         go_wp2_with fail
         go_roundw
         case rel => exact ⟨j + 1, dz, gb, hlt, by go_num, rfl, HBF.out, fun h => ⟨(HQQ.out h).1, HST2.out gb (HQQ.out h).2 (fun h2 => by have := HX0.out; omega) h⟩, HPO.out, Own.keep HROW2.out (Mod.drewN (fun _ => False) _ _) (fun _ _ e => e), HMR2.out.of2 (Mod.drewN _ _ _)⟩
         case measure => simp [intOf]; omega
        case neg =>
         have z1 : decide (0 ≤ xs) = true := decide_eq_true (by omega)
         have hs1 := hsum (by omega)
         by_cases hc : xd < 0 ∨ xs + wz < xd
         case neg =>
          have z2 : decide (xd < 0) = false := decide_eq_false (by omega)
          have z3 : decide (xs + wz < xd) = false := decide_eq_false (by omega)
          have HC : Hid (0 ≤ xd ∧ xd ≤ xs + wz) := Lib.hid (by omega)
          clear hx0 hc hsum
          go_quiet (fail)
          go_wp2_with fail
          go_roundw
          case rel => exact ⟨j + 1, dz, gb, hlt, by go_num, rfl, HBF.out, fun h => ⟨(HQQ.out h).1, HST2.out gb (HQQ.out h).2 (fun _ => HC.out) h⟩, HPO.out, Own.keep HROW2.out (Mod.drewN (fun _ => False) _ _) (fun _ _ e => e), HMR2.out.of2 (Mod.drewN _ _ _)⟩
          case measure => simp [intOf]; omega
         case pos =>
          obtain ⟨y2, hy2⟩ : ∃ b, decide (xd < 0) = b := ⟨_, rfl⟩
          obtain ⟨hb9, hp9⟩ := HRX.out (by omega) hc
          have HB9 := Lib.hid hb9
          have hpo : pot (dz.set at_ (xs + wz)) < pot dd := by
           cases gb with
           | false => rw [← (HQQ.out rfl).1]; exact hp9
           | true => exact Nat.lt_trans hp9 (HPO.out rfl)
          have HP9 := Lib.hid hpo
          clear hb9 hp9 hpo hx0 hsum
          cases y2 with
          | true =>
           clear hc
           go_quiet (fail)
           go_upto_region 17 with fail
           obtain ⟨w4, hw4⟩ : ∃ y, World.drewN w2 nq = y := ⟨_, rfl⟩
           have hm4 : Mod (fun _ => False) w2 w4 := by rw [← hw4]; exact Mod.drewN _ _ _
           (try rw [hw4])
           have HM4 := Lib.hid (HMR2.out.of2 hm4)
           have hrow4 := Own.keep HROW2.out hm4 (fun _ _ e => e)
           have HROW4 := Lib.hid hrow4
           replace qs := hm4.cell qs (fun e => e)
           replace qd := hm4.cell qd (fun e => e)
           replace g0 := hm4.cell g0 (fun e => e)
           replace g1 := hm4.cell g1 (fun e => e)
           replace g2 := hm4.cell g2 (fun e => e)
           have HQD := Lib.hid qd
           have HG4 : Hid (∀ W, Mod (fun _ => False) w4 W → W.cell? ⟨rb, at_, none⟩ = some (.int .i64 xd) ∧ W.frozen? ⟨rb, at_, none⟩ = false) := Lib.hid (fun W hm => ⟨hm.cell HQD.out (fun e => e), (Room.ofOwn (Own.keep HROW4.out hm (fun _ _ e => e)) at_ (by omega)).free⟩)
           have HSTO : Hid (∀ W W2, Mod (fun _ => False) w4 W → W2 = W.setCell ⟨rb, at_, none⟩ (.int .i64 (xs + wz)) → World.ownsRow W2 0 3 1 (.slice (some ⟨rb, 0, none⟩) k k) k ((dz.set at_ (xs + wz)).map (Value.int .i64)) ∧ Mod (fun _ => False) w W2) := Lib.hid (fun W W2 hm hW2 => by
            subst hW2
            have hst := ((Own.keep HROW4.out hm (fun _ _ e => e)).stored at_ (.int .i64 (xs + wz))).1
            rw [← List.map_set] at hst
            exact ⟨hst, (HM4.out.of2 hm).trans (Mod.setCell W _ _ rfl : Mod (fun i => i = rb) W (W.setCell ⟨rb, at_, none⟩ (.int .i64 (xs + wz)))) (fun _ _ e => e) (fun i hi e => by have h1 := HRB.out; have h2 : i = rb := e; omega)⟩)
           clear hw4 hm4 qf2 hrow4
           go_still_tail 12, (by kernel_rfl)
           change wpList _ _ _ _ _ (World.drew w4)
           obtain ⟨k1, k2⟩ := HG4.out _ (Mod.drew (fun _ => False) w4)
           have hm5 : Mod (fun _ => False) w4 (World.drew w4) := Mod.drew _ _
           have HM5 := Lib.hid hm5
           clear hm5
           go_wp2_with fail
           go_roundw
           case rel => exact ⟨j + 1, dz.set at_ (xs + wz), true, hlt, by go_num, rfl, HB9.out, (fun h => by cases h), fun _ => HP9.out, (HSTO.out _ _ HM5.out rfl).1, (HSTO.out _ _ HM5.out rfl).2⟩
           case measure => simp [intOf]; omega
          | false =>
           have z3 : decide (xs + wz < xd) = true := decide_eq_true (by have := of_decide_eq_false hy2; omega)
           clear hc
           go_quiet (fail)
           go_upto_region 17 with fail
           obtain ⟨w4, hw4⟩ : ∃ y, World.drewN w2 nq = y := ⟨_, rfl⟩
           have hm4 : Mod (fun _ => False) w2 w4 := by rw [← hw4]; exact Mod.drewN _ _ _
           (try rw [hw4])
           have HM4 := Lib.hid (HMR2.out.of2 hm4)
           have hrow4 := Own.keep HROW2.out hm4 (fun _ _ e => e)
           have HROW4 := Lib.hid hrow4
           replace qs := hm4.cell qs (fun e => e)
           replace qd := hm4.cell qd (fun e => e)
           replace g0 := hm4.cell g0 (fun e => e)
           replace g1 := hm4.cell g1 (fun e => e)
           replace g2 := hm4.cell g2 (fun e => e)
           have HQD := Lib.hid qd
           have HG4 : Hid (∀ W, Mod (fun _ => False) w4 W → W.cell? ⟨rb, at_, none⟩ = some (.int .i64 xd) ∧ W.frozen? ⟨rb, at_, none⟩ = false) := Lib.hid (fun W hm => ⟨hm.cell HQD.out (fun e => e), (Room.ofOwn (Own.keep HROW4.out hm (fun _ _ e => e)) at_ (by omega)).free⟩)
           have HSTO : Hid (∀ W W2, Mod (fun _ => False) w4 W → W2 = W.setCell ⟨rb, at_, none⟩ (.int .i64 (xs + wz)) → World.ownsRow W2 0 3 1 (.slice (some ⟨rb, 0, none⟩) k k) k ((dz.set at_ (xs + wz)).map (Value.int .i64)) ∧ Mod (fun _ => False) w W2) := Lib.hid (fun W W2 hm hW2 => by
            subst hW2
            have hst := ((Own.keep HROW4.out hm (fun _ _ e => e)).stored at_ (.int .i64 (xs + wz))).1
            rw [← List.map_set] at hst
            exact ⟨hst, (HM4.out.of2 hm).trans (Mod.setCell W _ _ rfl : Mod (fun i => i = rb) W (W.setCell ⟨rb, at_, none⟩ (.int .i64 (xs + wz)))) (fun _ _ e => e) (fun i hi e => by have h1 := HRB.out; have h2 : i = rb := e; omega)⟩)
           clear hw4 hm4 qf2 hrow4
           go_still_tail 12, (by kernel_rfl)
           change wpList _ _ _ _ _ (World.drew w4)
           obtain ⟨k1, k2⟩ := HG4.out _ (Mod.drew (fun _ => False) w4)
           have hm5 : Mod (fun _ => False) w4 (World.drew w4) := Mod.drew _ _
           have HM5 := Lib.hid hm5
           clear hm5
           go_wp2_with fail
           go_roundw
           case rel => exact ⟨j + 1, dz.set at_ (xs + wz), true, hlt, by go_num, rfl, HB9.out, (fun h => by cases h), fun _ => HP9.out, (HSTO.out _ _ HM5.out rfl).1, (HSTO.out _ _ HM5.out rfl).2⟩
           case measure => simp [intOf]; omega
end Go.Proofs.YtjjedebjbgpimaaGreat
