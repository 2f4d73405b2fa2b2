/- The reference's Shortcuts, Worth and First, by contract. -/
import Derived.Test.YtjjedebjbgpimaaGreatKRk
import Derived.Test.YtjjedebjbgpimaaGreatRWit
namespace Go.Proofs.YtjjedebjbgpimaaGreat
open Go.RowKit Mile
set_option maxRecDepth 100000
attribute [local go_sem] Oper.semAt_some
theorem found_self {n : Nat} {L : List Ar} {fr : Nat} {wo : Int} {d : List Int} (hf : Fix (netW n L (fr : Int) wo) d) (hfr : fr < n) (hwo : (fr : Int) ≠ wo) (mo : Int) (hmo : 0 ≤ mo) : foundB d (fr : Int) mo 30 = true := by
 have h0 := hf.st fr ⟨rfl, hwo⟩ hfr
 refine foundB_iff.2 ⟨by omega, by omega, ?_⟩
 have hnil : (List.range d.length).filter (rankB d fr) = [] := List.filter_eq_nil_iff.2 fun u _ hu => by
  obtain ⟨h1, h2⟩ := rankB_iff.1 hu
  unfold ahead at h2
  rcases hf.why u h1 with ⟨⟨h3, _⟩, _⟩ | ⟨b, h3, h4, h5⟩
  ·
   omega
  ·
   have := ((netW n L (fr : Int) wo).one u b h3).1
   omega
 unfold rankN
 rw [hnil]
 exact Nat.zero_lt_succ _
theorem rn_wit_q {w : World} {q n : Nat} {L : List Ar} (h : RN w q n L) (hok : NetOk n L) (hw : ∀ a ∈ L, a.w ≤ 1099511627776) (h512 : n ≤ 512) (hb : L.length ≤ 10000) (fr tv wo mo st : Int) (d : List Int) (hf : Fix (netW n L fr wo) d) (r : Bool) (hr : foundB d tv mo st = r) :
  Calls Tryz.prog 114 #[.pointer (some ⟨q, 0, none⟩), .int .i64 fr, .int .i64 tv, .int .i64 wo, .int .i64 mo, .int .i64 st] w (WtR r w) := by
 rw [← hr]; exact rn_wit h hok hw h512 hb fr tv wo mo st d hf
structure RcS (w0 : World) (R : List Ar) (v : Value) (W : World) : Prop where
 ow : ∃ a c, v = .slice a R.length c ∧ W.ownsRow w0.heap.size 50 4 v R.length (R.flatMap c4)
 md : Mod (fun _ => False) w0 W
theorem RcS.later {w0 W W' : World} {R : List Ar} {v : Value} (h : RcS w0 R v W) (hm : Mod (fun _ => False) W W') : RcS w0 R v W' := by
 obtain ⟨⟨a, c, h4, h5⟩, h6⟩ := h
 exact ⟨⟨a, c, h4, Own.keep h5 hm (fun _ _ e => e)⟩, h6.of2 hm⟩
theorem RcS.grown {w0 W W' : World} {R R' : List Ar} {v v' : Value} (h : RcS w0 R v W) (hap : Appended W W' 50 4 v v' R'.length (R'.flatMap c4)) : RcS w0 R' v' W' := by
 obtain ⟨⟨a, c, h4, h5⟩, h6⟩ := h
 have hz := h6.size
 obtain ⟨a', c', h7⟩ := hap.form
 exact ⟨⟨a', c', h7, own_base hap.own (fun k hk => (hap.row k hk).elim (fun e => (h5.lt k e).1) (fun e => by omega))⟩, h6.trans hap.mod (fun _ _ e => e) (fun k hk e => by have := (h5.lt k e).1; omega)⟩
set_option maxHeartbeats 16000000 in
theorem rn_sc {w : World} {q n : Nat} {L : List Ar} (h : RN w q n L) (hok : NetOk n L) (hw : ∀ a ∈ L, a.w ≤ 1099511627776) (h512 : n ≤ 512) (hb : L.length ≤ 10000) {D : Nat → Int → List Int} (hD : DOk n L D) (v : Nat) :
  Calls Tryz.prog 83 #[.pointer (some ⟨q, 0, none⟩), .int .i64 (v : Int)] w (ScQ L D v w) := by
 obtain ⟨iA, hiA, hzA, hsA, hbA⟩ := info_parts Nt.infoA
 have hIl := inL_len hok (v : Int)
 have hOl := outL_len hok (v : Int)
 have hNI := Lib.hid (rn_in h hb (v : Int))
 have HRN := Lib.hid h
 have HOK := Lib.hid hok
 have HWT := Lib.hid hw
 have HD := Lib.hid hD
 have HB := Lib.hid hb
 clear h hok hw hb hD
 go_enter Tryz.func83, Tryz.ntmps83
 go_wp2_with fail
 refine hNI.out.mono ?_
 rintro e w1 ⟨ia, ic, rfl, hi1, hm1⟩
 have hNO := Lib.hid (rn_out (HRN.out.later hm1) HOK.out HB.out (v : Int))
 have HI1 := Lib.hid hi1
 have HM1 := Lib.hid hm1
 clear hi1 hm1 hNI
 go_wp2_with fail
 refine hNO.out.mono ?_
 rintro e w0 ⟨oa, oc, rfl, ho0, hm0⟩
 have HI := Lib.hid (And.intro ((Rd.ofOwn HI1.out).keep hm0 (fun _ _ e => e)) (Rd.ofOwn ho0))
 have HS0 : Hid (RcS w0 (scI D L (v : Int) []) (.slice none 0 0) w0) := Lib.hid ⟨⟨none, 0, rfl, World.ownsRow_nil _ _ _ _⟩, Mod.refl _ _⟩
 have HMW := Lib.hid (HM1.out.of2 hm0)
 obtain ⟨I, hI⟩ : ∃ y, inL L (v : Int) = y := ⟨_, rfl⟩
 obtain ⟨O, hO⟩ : ∃ y, outL L (v : Int) = y := ⟨_, rfl⟩
 have HI2 := Lib.hid (by have h := HI.out; rw [hI, hO] at h; exact h)
 rw [hI] at hIl ⊢
 rw [hO] at hOl ⊢
 obtain ⟨ni, hni⟩ : ∃ y, I.length = y := ⟨_, rfl⟩
 obtain ⟨no, hno⟩ : ∃ y, O.length = y := ⟨_, rfl⟩
 have HIR := Lib.hid (by have h := HI2.out; rw [hni, hno] at h; exact h)
 rw [hni] at hIl ⊢
 rw [hno] at hOl ⊢
 have HIO := Lib.hid (And.intro hI (And.intro hO (And.intro hni hno)))
 have h9 : ni ≤ 512 ∧ no ≤ 512 := ⟨by omega, by omega⟩
 clear hI hO hni hno HI2 HI hm0 ho0 hNO hIl hOl
 go_wp2_with fail
 go_loopw [5, 8] (fun al i wr => ∃ k : Nat, k ≤ ni ∧ i = .int .i64 k ∧ RcS w0 (scI D L (v : Int) (I.take k)) al wr) (fun _ i _ => ni - (intOf i).toNat)
 case atStart => exact ⟨0, by omega, rfl, HS0.out⟩
 case round =>
  obtain ⟨k, hk, rfl, hs⟩ := hrel
  obtain ⟨wo, hwo⟩ : ∃ x : World, x = wr := ⟨_, rfl⟩
  subst hwo
  have HS := Lib.hid hs
  clear hs
  by_cases hlt : k < ni
  case neg =>
   have z0 : decide ((k : Int) < (ni : Int)) = false := by simp; omega
   obtain ⟨⟨a, c, hal, h5⟩, h6⟩ := HS.out
   have HE := Lib.hid (And.intro h5 (And.intro h6 hal))
   clear h5 h6 hal
   go_wp2_with fail
   go_ret
   obtain ⟨h5, h6, hal⟩ := HE.out
   have e1 : scI D L (v : Int) (I.take k) = scR D L (v : Int) := by
    rw [List.take_of_length_le (by have := HIO.out.2.2.1; omega), ← HIO.out.1]; rfl
   rw [e1] at h5 hal
   have hz := HMW.out.size
   exact ⟨a, c, by rw [← hal]; rfl, own_base (by rw [← hal]; exact h5) (fun k hk => by rw [← hal] at hk; have := (h5.lt k hk).1; omega), HMW.out.of2 h6⟩
  case pos =>
   have z0 : decide ((k : Int) < (ni : Int)) = true := by simp; omega
   have hkl : k < I.length := by rw [HIO.out.2.2.1]; exact hlt
   obtain ⟨a, ha⟩ : ∃ a, I[k] = a := ⟨_, rfl⟩
   have hak : I.take (k + 1) = I.take k ++ [a] := by rw [List.take_succ_eq_append_getElem hkl, ha]
   have haI : a ∈ inL L (v : Int) := by rw [HIO.out.1, ← ha]; exact List.getElem_mem hkl
   have haL : a ∈ L := (List.mem_filter.1 haI).1
   have hat := of_decide_eq_true (List.mem_filter.1 haI).2
   have hmay := HOK.out.may a haL
   unfold mayA at hmay
   have haw := HWT.out a haL
   obtain ⟨fa, hfa⟩ := Int.eq_ofNat_of_zero_le hmay.1
   obtain ⟨af, at_, aw, am⟩ := a
   simp only at hfa haw hmay hat
   subst hfa
   have HA := Lib.hid (And.intro ha (And.intro hak (And.intro hat hmay)))
   have haw1 := hmay.2.2.2.2.2.1
   clear ha hak haI haL hat hmay
   go_wp2_with fail
   go_loopw [5, 9] (fun al i wr => ∃ j : Nat, j ≤ no ∧ i = .int .i64 j ∧ RcS w0 (scI D L (v : Int) (I.take k) ++ sc1 D (v : Int) ⟨(fa : Int), at_, aw, am⟩ (O.take j)) al wr) (fun _ i _ => no - (intOf i).toNat)
   case atStart => exact ⟨0, by omega, rfl, by rw [List.take_zero]; unfold sc1; simpa using HS.out⟩
   case round =>
    obtain ⟨j, hj, rfl, hs⟩ := hrel
    obtain ⟨wi, hwi⟩ : ∃ x : World, x = wr := ⟨_, rfl⟩
    subst hwi
    have HSI := Lib.hid hs
    clear hs
    by_cases hjt : j < no
    case neg =>
     have z1 : decide ((j : Int) < (no : Int)) = false := by simp; omega
     have hjn : no ≤ j := by omega
     go_wp2_with fail
     go_roundw
     case rel =>
      refine ⟨k + 1, hlt, by go_num, ?_⟩
      have h9 := HSI.out
      rw [List.take_of_length_le (l := O) (i := j) (by rw [HIO.out.2.2.2]; exact hjn), ← HIO.out.2.1, ← scI_step, ← HA.out.2.1] at h9
      exact h9
     case measure => simp [intOf]; omega
    case pos =>
     have z1 : decide ((j : Int) < (no : Int)) = true := by simp; omega
     have hjl : j < O.length := by rw [HIO.out.2.2.2]; exact hjt
     obtain ⟨b, hb⟩ : ∃ b, O[j] = b := ⟨_, rfl⟩
     have hbk : O.take (j + 1) = O.take j ++ [b] := by rw [List.take_succ_eq_append_getElem hjl, hb]
     have hbO : b ∈ outL L (v : Int) := by rw [HIO.out.2.1, ← hb]; exact List.getElem_mem hjl
     have hbL : b ∈ L := (List.mem_filter.1 hbO).1
     have hmay := HOK.out.may b hbL
     unfold mayA at hmay
     have hbw := HWT.out b hbL
     have hrI := HIR.out.1.keep HSI.out.md (fun _ _ e => e)
     have hrO := HIR.out.2.keep HSI.out.md (fun _ _ e => e)
     have hkl : k < I.length := by rw [HIO.out.2.2.1]; exact hlt
     obtain ⟨eb, eo, hpe, e0, e1, e2, e3⟩ := rd4 hrI k hkl
     rw [HA.out.1] at e0 e1 e2 e3
     have hix := fun wx => run_indexS (P := Tryz.prog) wx 34 50 iA 4 Tryz.underlying34 hiA hsA ia ni ic k hlt (hrI.some_ (by omega))
     rw [hpe] at hix
     obtain ⟨pb, po, hpp, p0, p1, p2, p3⟩ := rd4 hrO j hjl
     rw [hb] at p0 p1 p2 p3
     have hix2 := fun wx => run_indexS (P := Tryz.prog) wx 34 50 iA 4 Tryz.underlying34 hiA hsA oa no oc j hjt (hrO.some_ (by omega))
     rw [hpp] at hix2
     obtain ⟨bf, bt, bw, bm⟩ := b
     simp only at e0 e2 p1 p2 hbw hmay
     have hbw1 := hmay.2.2.2.2.2.1
     have hsum : IntKind.i64.wrap (aw + bw) = aw + bw := IntWalk.i64_in _ (by omega)
     have leb := World.block_lt_of_cell? _ _ e0
     have lpb := World.block_lt_of_cell? _ _ p1
     obtain ⟨al, hal⟩ : ∃ y : Value, y = u5 := ⟨_, rfl⟩
     subst hal
     have HBB := Lib.hid (And.intro hbk (And.intro hmay (And.intro hpe hpp)))
     clear e1 e3 p0 p3 hb hbk hbO hbL hmay hrI hrO hkl hjl hpe hpp
     go_upto_region 9 with fail
     go_cut [10] from 29 to 51 (fun g wx => ∃ b, g = .pointer (some ⟨b, 0, none⟩) ∧ Mod (fun _ => False) wi wx ∧ Blk wx b 50 [.int .i64 (fa : Int), .int .i64 bt, .int .i64 (aw + bw), .int .i64 (v : Int)])
     case first =>
      go_region
      (try go_wp2_with fail)
      go_meet
      exact ⟨_, rfl, (Mod.alloc _ _ _).of2 (Mod.drew _ _), (Blk.new wi 50 [.int .i64 (fa : Int), .int .i64 bt, .int .i64 (aw + bw), .int .i64 (v : Int)]).keep (Mod.drew (fun _ => False) _) (fun e => e)⟩
     case rest =>
      obtain ⟨g, rfl, hmc, hgb⟩ := hcut
      obtain ⟨wd, hwd⟩ : ∃ x : World, x = wc := ⟨_, rfl⟩
      subst hwd
      have g0 := hgb.cell 0 rfl
      have g1 := hgb.cell 1 rfl
      have g2 := hgb.cell 2 rfl
      have g3 := hgb.cell 3 rfl
      have HC := Lib.hid (And.intro hmc hgb)
      clear hmc hgb e0 e2 p1 p2 hix hix2 leb lpb hsum
      obtain ⟨f, hf⟩ : ∃ f, ovB D (v : Int) ⟨(fa : Int), at_, aw, am⟩ ⟨bf, bt, bw, bm⟩ = f := ⟨_, rfl⟩
      have hf2 : foundB (D fa (v : Int)) bt (aw + bw) 30 = f := by rw [← hf]; unfold ovB; rw [Int.toNat_natCast]
      have HFO := Lib.hid (And.intro hf hf2)
      clear hf hf2
      have hfav : (fa : Int) ≠ (v : Int) := by
       have h1 := HA.out.2.2.1
       have h2 := HA.out.2.2.2
       omega
      by_cases hft : (fa : Int) = bt
      ·
       have z2 : ((fa : Int) == bt) = true := beq_iff_eq.2 hft
       have z3 : ((fa : Int) != bt) = false := by simp [hft]
       have hft2 : f = true := by
        rw [← HFO.out.2, ← hft]
        exact found_self (HD.out fa (v : Int)) (by have := HA.out.2.2.2; omega) hfav _ (by omega)
       have HFT := Lib.hid hft2
       clear hft hfav hft2
       go_wp2_with fail
       go_roundw
       case rel =>
        refine ⟨j + 1, hjt, by go_num, ?_⟩
        rw [HBB.out.1, sc1_step, HFO.out.1, HFT.out]
        simpa using HSI.out.later HC.out.1
       case measure => simp [intOf]; omega
      ·
       have z2 : ((fa : Int) == bt) = false := beq_eq_false_iff_ne.2 hft
       have z3 : ((fa : Int) != bt) = true := by simp [hft]
       clear hft hfav
       have HWI := Lib.hid (rn_wit_q (HRN.out.later (HMW.out.of2 (HSI.out.later HC.out.1).md)) HOK.out HWT.out h512 HB.out (fa : Int) bt (v : Int) (aw + bw) 30 (D fa (v : Int)) (HD.out fa (v : Int)) f HFO.out.2)
       go_wp2_with fail
       refine HWI.out.mono ?_
       rintro e w5 ⟨rfl, hm5⟩
       have HG5 := Lib.hid (HC.out.2.keep hm5 (fun e => e))
       have hS5 := (HSI.out.later HC.out.1).later hm5
       replace g0 := hm5.cell g0 (fun e => e)
       replace g1 := hm5.cell g1 (fun e => e)
       replace g2 := hm5.cell g2 (fun e => e)
       replace g3 := hm5.cell g3 (fun e => e)
       have HS5 := Lib.hid hS5
       clear hm5 hS5 HWI
       cases f with
       | true =>
        go_wp2_with fail
        go_roundw
        case rel =>
         refine ⟨j + 1, hjt, by go_num, ?_⟩
         rw [HBB.out.1, sc1_step, HFO.out.1]
         simpa using HS5.out
        case measure => simp [intOf]; omega
       | false =>
        obtain ⟨nr, hnr⟩ : ∃ y, (scI D L (v : Int) (I.take k) ++ sc1 D (v : Int) ⟨(fa : Int), at_, aw, am⟩ (O.take j)).length = y := ⟨_, rfl⟩
        have hnr9 : nr ≤ 300000 := by
         rw [← hnr, List.length_append]
         have h1 := scI_len D L (v : Int) (I.take k)
         have h2 := sc1_len D (v : Int) ⟨(fa : Int), at_, aw, am⟩ (O.take j)
         have h3 : (I.take k).length ≤ 512 := by rw [List.length_take]; have := HIO.out.2.2.1; omega
         have h4 : (outL L (v : Int)).length ≤ 512 := by rw [HIO.out.2.1, HIO.out.2.2.2]; omega
         have h5 := Nat.mul_le_mul h3 h4
         have h6 : (O.take j).length ≤ 512 := by rw [List.length_take]; have := HIO.out.2.2.2; omega
         omega
        have hsib := HS5.out
        obtain ⟨⟨ra2, rc2, hal2, how2⟩, _⟩ := id hsib
        rw [hnr] at hal2 how2
        subst hal2
        have HW := Lib.hid (And.intro hsib (And.intro how2 hnr))
        obtain ⟨wc2, hwc⟩ : ∃ y, w5.alloc (.cells #[.int .i64 (fa : Int), .int .i64 bt, .int .i64 (aw + bw), .int .i64 (v : Int)] 50) = y := ⟨_, rfl⟩
        have hmc : Mod (fun _ => False) w5 wc2 := by rw [← hwc]; exact Mod.alloc _ _ _
        have hlit : Rd wc2 4 (.slice (some ⟨w5.heap.size, 0, none⟩) 1 1) 1 [.int .i64 (fa : Int), .int .i64 bt, .int .i64 (aw + bw), .int .i64 (v : Int)] := by rw [← hwc]; exact Rd.litN 50 4 [.int .i64 (fa : Int), .int .i64 bt, .int .i64 (aw + bw), .int .i64 (v : Int)] _ _ 1 rfl rfl (by omega)
        have HOW := Lib.hid (own_base (b2 := 0) (Own.keep how2 hmc (fun _ _ e => e)) (fun _ _ => Nat.zero_le _))
        have HLIT := Lib.hid hlit
        have HMC := Lib.hid hmc
        clear hmc hlit hsib how2 hnr
        go_wp2_with (at_builtin; refine wpList_append_any rfl (.tmp 69) (.tmp 71) 34 rfl 50 iA (.agg #[.int .i64 0, .int .i64 0, .int .i64 0, .int .i64 0]) 4 32 Tryz.underlying34 hiA hzA hsA hbA rfl (by decide) (.slice ra2 nr rc2) nr _ rfl HOW.out _ 1 _ rfl HLIT.out (fun u hu => by simp at hu; rcases hu with rfl | rfl | rfl | rfl <;> rfl) (by unfold maxLen; omega) (by omega) ?_; intro v9 w9 hap9; have HAP9 := Lib.hid hap9; clear hap9)
        go_roundw
        case rel =>
         have hlen : (scI D L (v : Int) (I.take k) ++ sc1 D (v : Int) ⟨(fa : Int), at_, aw, am⟩ (O.take (j + 1))).length = nr + 1 := by
          rw [HBB.out.1, sc1_step, HFO.out.1, ← List.append_assoc, List.length_append, HW.out.2.2]; rfl
         have hfl : (scI D L (v : Int) (I.take k) ++ sc1 D (v : Int) ⟨(fa : Int), at_, aw, am⟩ (O.take (j + 1))).flatMap c4 = (scI D L (v : Int) (I.take k) ++ sc1 D (v : Int) ⟨(fa : Int), at_, aw, am⟩ (O.take j)).flatMap c4 ++ [.int .i64 (fa : Int), .int .i64 bt, .int .i64 (aw + bw), .int .i64 (v : Int)] := by
          rw [HBB.out.1, sc1_step, HFO.out.1, ← List.append_assoc, List.flatMap_append]; rfl
         have hg9 : Appended wc2 w9 50 4 (.slice ra2 nr rc2) v9 (scI D L (v : Int) (I.take k) ++ sc1 D (v : Int) ⟨(fa : Int), at_, aw, am⟩ (O.take (j + 1))).length ((scI D L (v : Int) (I.take k) ++ sc1 D (v : Int) ⟨(fa : Int), at_, aw, am⟩ (O.take (j + 1))).flatMap c4) := by rw [hlen, hfl]; exact HAP9.out
         exact ⟨j + 1, hjt, by go_num, (HW.out.1.later HMC.out).grown hg9⟩
        case measure => simp [intOf]; omega
set_option maxHeartbeats 2000000 in
theorem rn_worth {w : World} {q n : Nat} {L : List Ar} (h : RN w q n L) (hok : NetOk n L) (hw : ∀ a ∈ L, a.w ≤ 1099511627776) (h512 : n ≤ 512) (hb : L.length ≤ 10000) {D : Nat → Int → List Int} (hD : DOk n L D) (v : Nat) :
  Calls Tryz.prog 113 #[.pointer (some ⟨q, 0, none⟩), .int .i64 (v : Int)] w fun e w' => e = .returned (.int .i64 (wthR D L (v : Int))) ∧ Mod (fun _ => False) w w' := by
 have HS := Lib.hid (rn_sc h hok hw h512 hb hD v)
 have HRN := Lib.hid h
 have HOK := Lib.hid hok
 have HB := Lib.hid hb
 have hbd := wth_bound hok h512 D (v : Int)
 have hil := inL_len hok (v : Int)
 have hol := outL_len hok (v : Int)
 have hs1 : IntKind.i64.wrap (((scR D L (v : Int)).length : Int) - ((inL L (v : Int)).length : Int)) = ((scR D L (v : Int)).length : Int) - ((inL L (v : Int)).length : Int) := IntWalk.i64_in _ (by unfold wthR at hbd; omega)
 have hs2 : IntKind.i64.wrap (((scR D L (v : Int)).length : Int) - ((inL L (v : Int)).length : Int) - ((outL L (v : Int)).length : Int)) = ((scR D L (v : Int)).length : Int) - ((inL L (v : Int)).length : Int) - ((outL L (v : Int)).length : Int) := IntWalk.i64_in _ (by unfold wthR at hbd; omega)
 have HWT := Lib.hid (show wthR D L (v : Int) = ((scR D L (v : Int)).length : Int) - ((inL L (v : Int)).length : Int) - ((outL L (v : Int)).length : Int) from rfl)
 have HS12 := Lib.hid (And.intro hs1 hs2)
 clear h hok hw hb hD hbd hil hol hs1 hs2
 obtain ⟨ns, hns⟩ : ∃ y, (scR D L (v : Int)).length = y := ⟨_, rfl⟩
 obtain ⟨ni, hni⟩ : ∃ y, (inL L (v : Int)).length = y := ⟨_, rfl⟩
 obtain ⟨no, hno⟩ : ∃ y, (outL L (v : Int)).length = y := ⟨_, rfl⟩
 have HNN := Lib.hid (And.intro hns (And.intro hni hno))
 have hs := HS12.out
 rw [hns, hni, hno] at hs
 obtain ⟨hs1, hs2⟩ := hs
 clear hns hni hno
 go_enter Tryz.func113, Tryz.ntmps113
 go_wp2_with fail
 refine HS.out.mono ?_
 rintro e w1 ⟨a1, c1, rfl, _, hm1⟩
 have HI := Lib.hid (rn_in (HRN.out.later hm1) HB.out (v : Int))
 have HM1 := Lib.hid hm1
 rw [HNN.out.1]
 clear hm1 HS
 go_wp2_with fail
 refine HI.out.mono ?_
 rintro e w2 ⟨a2, c2, rfl, _, hm2⟩
 have HO := Lib.hid (rn_out (HRN.out.later (HM1.out.of2 hm2)) HOK.out HB.out (v : Int))
 have HM2 := Lib.hid (HM1.out.of2 hm2)
 rw [HNN.out.2.1]
 clear hm2 HI
 go_wp2_with fail
 refine HO.out.mono ?_
 rintro e w3 ⟨a3, c3, rfl, _, hm3⟩
 have HM3 := Lib.hid (HM2.out.of2 hm3)
 rw [HNN.out.2.2]
 clear hm3 HO
 go_wp2_with fail
 go_ret
 exact ⟨by rw [HWT.out, HNN.out.1, HNN.out.2.1, HNN.out.2.2]; rfl, HM3.out⟩
set_option maxHeartbeats 8000000 in
theorem rn_first {w : World} {q n : Nat} {L : List Ar} (h : RN w q n L) (hok : NetOk n L) (hw : ∀ a ∈ L, a.w ≤ 1099511627776) (h512 : n ≤ 512) (hb : L.length ≤ 10000) {D : Nat → Int → List Int} (hD : DOk n L D) (ga : Option Addr) (gl gc : Nat) (G : List Bool) (hG : G.length = gl) (hg : Rd w 1 (.slice ga gl gc) gl (G.map Value.bool)) (hgl : gl ≤ 1000000) :
  Calls Tryz.prog 82 #[.pointer (some ⟨q, 0, none⟩), .slice ga gl gc] w fun e w' => e = .returned (.int .i64 (firN (fun v => wthR D L (v : Int)) (gonB G) n).1) ∧ Mod (fun _ => False) w w' := by
 obtain ⟨iB, hiB, hzB, hsB, hbB⟩ := info_parts infoBoF
 have HRN := Lib.hid h
 have HOK := Lib.hid hok
 have HWT := Lib.hid hw
 have HB := Lib.hid hb
 have HD := Lib.hid hD
 have HG := Lib.hid (And.intro hG hg)
 obtain ⟨na, nc, hbk, _, _⟩ := h
 have HBK := Lib.hid hbk
 clear hok hw hb hD hG hg hbk
 go_enter Tryz.func82, Tryz.ntmps82
 go_wp2_with fail
 go_loopw [5, 6, 7] (fun y x i wr => ∃ k : Nat, k ≤ n ∧ i = .int .i64 k ∧ x = .int .i64 (firN (fun v => wthR D L (v : Int)) (gonB G) k).1 ∧ y = .int .i64 (firN (fun v => wthR D L (v : Int)) (gonB G) k).2 ∧ Mod (fun _ => False) w wr) (fun _ _ i _ => n - (intOf i).toNat)
 case atStart => exact ⟨0, by omega, rfl, rfl, rfl, Mod.refl _ _⟩
 case round =>
  obtain ⟨k, hk, rfl, rfl, rfl, hs⟩ := hrel
  obtain ⟨wo, hwo⟩ : ∃ x : World, x = wr := ⟨_, rfl⟩
  subst hwo
  have b0 := (HBK.out.keep hs (fun e => e)).cell 0 rfl
  have HS := Lib.hid hs
  clear hs
  have hle := firN_le (fun v => wthR D L (v : Int)) (gonB G) k
  have hst := firN_step (fun v => wthR D L (v : Int)) (gonB G) k
  obtain ⟨⟨x, y⟩, hxy⟩ : ∃ z, firN (fun v => wthR D L (v : Int)) (gonB G) k = z := ⟨_, rfl⟩
  rw [hxy] at hle hst ⊢
  simp only at hle ⊢
  have HXY := Lib.hid (And.intro hxy hst)
  clear hxy hst
  by_cases hlt : k < n
  case neg =>
   obtain rfl : k = n := by omega
   have z0 : decide ((k : Int) < (k : Int)) = false := by simp
   go_wp2_with fail
   go_ret
   exact ⟨by rw [HXY.out.1]; rfl, HS.out⟩
  case pos =>
   have z0 : decide ((k : Int) < (n : Int)) = true := by simp; omega
   have hWO := Lib.hid (rn_worth (HRN.out.later HS.out) HOK.out HWT.out h512 HB.out HD.out k)
   have hwb := wth_bound HOK.out h512 D (k : Int)
   obtain ⟨wt, hwt⟩ : ∃ z, wthR D L (k : Int) = z := ⟨_, rfl⟩
   rw [hwt] at hwb
   have HWV := Lib.hid hwt
   obtain ⟨gk, hgk⟩ : ∃ z, gonB G k = z := ⟨_, rfl⟩
   have HGK := Lib.hid hgk
   by_cases hkg : k < gl
   ·
    have z1 : decide ((k : Int) < (gl : Int)) = true := by simp; omega
    have hrd := HG.out.2.keep HS.out (fun _ _ e => e)
    have hkl : k < (G.map Value.bool).length := by rw [List.length_map, HG.out.1]; exact hkg
    obtain ⟨eb, eo, hpl, e0⟩ := rdb1 hrd k (by rw [HG.out.1]; exact hkg)
    have hix := fun wx => run_indexS (P := Tryz.prog) wx 48 4 iB 1 Tryz.underlying48 hiB hsB ga gl gc k hkg (hrd.some_ (by omega))
    rw [hpl] at hix
    have hgg : G[k]'(by rw [HG.out.1]; exact hkg) = gk := by rw [← hgk]; unfold gonB; simp [List.getD, HG.out.1, hkg]
    rw [hgg] at e0
    clear hrd hkl hpl hgg hgk
    cases hgk2 : gk with
    | true =>
     subst hgk2
     go_wp2_with fail
     go_roundw
     case rel =>
      have e1 := HXY.out.2
      unfold firT at e1
      rw [HGK.out, if_pos rfl] at e1
      exact ⟨k + 1, hlt, by go_num, by rw [e1], by rw [e1], HS.out⟩
     case measure => simp [intOf]; omega
    | false =>
     rw [hgk2] at e0
     have hgf : gk = false := hgk2
     subst hgf
     go_wp2_with fail
     refine hWO.out.mono ?_
     rintro e w3 ⟨rfl, hm3⟩
     rw [HWV.out]
     have HS3 := Lib.hid (HS.out.of2 hm3)
     clear hm3 hWO
     by_cases hx0 : x < 0
     ·
      have z4 : decide (x < 0) = true := decide_eq_true hx0
      go_wp2_with fail
      go_roundw
      case rel =>
       have e1 := HXY.out.2
       unfold firT at e1
       rw [HGK.out, if_neg (by simp), if_pos (.inl hx0)] at e1
       simp only [HWV.out] at e1
       exact ⟨k + 1, hlt, by go_num, by rw [e1], by rw [e1], HS3.out⟩
      case measure => simp [intOf]; omega
     ·
      have z4 : decide (x < 0) = false := decide_eq_false hx0
      by_cases hwy : wt < y
      ·
       have z5 : decide (wt < y) = true := decide_eq_true hwy
       go_wp2_with fail
       go_roundw
       case rel =>
        have e1 := HXY.out.2
        unfold firT at e1
        simp only [HWV.out] at e1
        rw [HGK.out, if_neg (by simp), if_pos (.inr hwy)] at e1
        exact ⟨k + 1, hlt, by go_num, by rw [e1], by rw [e1], HS3.out⟩
       case measure => simp [intOf]; omega
      ·
       have z5 : decide (wt < y) = false := decide_eq_false hwy
       go_wp2_with fail
       go_roundw
       case rel =>
        have e1 := HXY.out.2
        unfold firT at e1
        simp only [HWV.out] at e1
        rw [HGK.out, if_neg (by simp), if_neg (by simp; omega)] at e1
        exact ⟨k + 1, hlt, by go_num, by rw [e1], by rw [e1], HS3.out⟩
       case measure => simp [intOf]; omega
   ·
    have z1 : decide ((k : Int) < (gl : Int)) = false := by simp; omega
    have hgk2 : gk = false := by rw [← hgk]; unfold gonB; simp [List.getD, HG.out.1, hkg]
    clear hgk
    have hgf : gk = false := hgk2
    subst hgf
    go_wp2_with fail
    refine hWO.out.mono ?_
    rintro e w3 ⟨rfl, hm3⟩
    rw [HWV.out]
    have HS3 := Lib.hid (HS.out.of2 hm3)
    clear hm3 hWO
    by_cases hx0 : x < 0
    ·
     have z4 : decide (x < 0) = true := decide_eq_true hx0
     go_wp2_with fail
     go_roundw
     case rel =>
      have e1 := HXY.out.2
      unfold firT at e1
      rw [HGK.out, if_neg (by simp), if_pos (.inl hx0)] at e1
      simp only [HWV.out] at e1
      exact ⟨k + 1, hlt, by go_num, by rw [e1], by rw [e1], HS3.out⟩
     case measure => simp [intOf]; omega
    ·
     have z4 : decide (x < 0) = false := decide_eq_false hx0
     by_cases hwy : wt < y
     ·
      have z5 : decide (wt < y) = true := decide_eq_true hwy
      go_wp2_with fail
      go_roundw
      case rel =>
       have e1 := HXY.out.2
       unfold firT at e1
       simp only [HWV.out] at e1
       rw [HGK.out, if_neg (by simp), if_pos (.inr hwy)] at e1
       exact ⟨k + 1, hlt, by go_num, by rw [e1], by rw [e1], HS3.out⟩
      case measure => simp [intOf]; omega
     ·
      have z5 : decide (wt < y) = false := decide_eq_false hwy
      go_wp2_with fail
      go_roundw
      case rel =>
       have e1 := HXY.out.2
       unfold firT at e1
       simp only [HWV.out] at e1
       rw [HGK.out, if_neg (by simp), if_neg (by simp; omega)] at e1
       exact ⟨k + 1, hlt, by go_num, by rw [e1], by rw [e1], HS3.out⟩
      case measure => simp [intOf]; omega
end Go.Proofs.YtjjedebjbgpimaaGreat
