/- Law RankNeeds. -/
import Derived.Test.YtepnlijdnabllaaRKeeps15
namespace Go.Proofs.Ytepnlijdnabllaa
open Go.RowKit Mile
set_option maxRecDepth 100000
theorem inL_rise {n : Nat} {L : List Ar} (h : NetOk n L) (v : Int) : (inL L v).Pairwise fun a b => a.f < b.f := by
  have h1 : (inL L v).Pairwise keyLt := h.sort.sublist List.filter_sublist
  refine h1.imp_of_mem fun {a b} ha hb hab => ?_
  have h2 := of_decide_eq_true (List.mem_filter.1 ha).2
  have h3 := of_decide_eq_true (List.mem_filter.1 hb).2
  rcases hab with h4 | h4
  · exact h4
  · omega
/-- What comes behind an arc that is not wanted is another one. -/
theorem sc_next {D : Nat → Int → List Int} {L : List Ar} {v : Int} {I : List Ar} (hI : I.Pairwise fun a b => a.f < b.f) (hO : (outL L v).Pairwise fun a b => a.t < b.t) {i j : Nat} (hi : i < I.length) (hj : j < (outL L v).length) :
    ∃ R, scI D L v I = (scI D L v (I.take i) ++ sc1 D v I[i] ((outL L v).take j)) ++ ((if ovB D v I[i] (outL L v)[j] then [] else [⟨I[i].f, (outL L v)[j].t, I[i].w + (outL L v)[j].w, v⟩]) ++ R) ∧ ∀ x ∈ R, ¬ (x.f = I[i].f ∧ x.t = (outL L v)[j].t) := by
  have e1 : I = I.take i ++ I[i] :: I.drop (i + 1) := by rw [← List.drop_eq_getElem_cons hi, List.take_append_drop]
  have e2 : outL L v = (outL L v).take j ++ (outL L v)[j] :: (outL L v).drop (j + 1) := by rw [← List.drop_eq_getElem_cons hj, List.take_append_drop]
  have e3 : scI D L v I = scI D L v (I.take i) ++ (sc1 D v I[i] (outL L v) ++ scI D L v (I.drop (i + 1))) := by
    have h : scI D L v (I.take i ++ I[i] :: I.drop (i + 1)) = scI D L v (I.take i) ++ (sc1 D v I[i] (outL L v) ++ scI D L v (I.drop (i + 1))) := by
      unfold scI
      rw [List.flatMap_append, List.flatMap_cons]
    rwa [← e1] at h
  have e4 : sc1 D v I[i] (outL L v) = sc1 D v I[i] ((outL L v).take j) ++ ((if ovB D v I[i] (outL L v)[j] then [] else [⟨I[i].f, (outL L v)[j].t, I[i].w + (outL L v)[j].w, v⟩]) ++ sc1 D v I[i] ((outL L v).drop (j + 1))) := by
    have h : sc1 D v I[i] ((outL L v).take j ++ (outL L v)[j] :: (outL L v).drop (j + 1)) = sc1 D v I[i] ((outL L v).take j) ++ ((if ovB D v I[i] (outL L v)[j] then [] else [⟨I[i].f, (outL L v)[j].t, I[i].w + (outL L v)[j].w, v⟩]) ++ sc1 D v I[i] ((outL L v).drop (j + 1))) := by
      rw [show (outL L v).take j ++ (outL L v)[j] :: (outL L v).drop (j + 1) = ((outL L v).take j ++ [(outL L v)[j]]) ++ (outL L v).drop (j + 1) by simp]
      have h2 := sc1_step D v I[i] ((outL L v).take j) (outL L v)[j]
      unfold sc1 at h2 ⊢
      rw [List.filter_append, List.map_append, h2, List.append_assoc]
    rwa [← e2] at h
  refine ⟨sc1 D v I[i] ((outL L v).drop (j + 1)) ++ scI D L v (I.drop (i + 1)), by rw [e3]; conv => lhs; rw [e4]
                                                                                   simp only [List.append_assoc], fun x hx he => ?_⟩
  rcases List.mem_append.1 hx with hx | hx
  · unfold sc1 at hx
    obtain ⟨b, hb, rfl⟩ := List.mem_map.1 hx
    have hb2 := (List.mem_filter.1 hb).1
    obtain ⟨k, hk, rfl⟩ := List.mem_iff_getElem.1 hb2
    rw [List.length_drop] at hk
    rw [List.getElem_drop] at he
    have := List.pairwise_iff_getElem.1 hO j (j + 1 + k) hj (by omega) (by omega)
    have h9 := he.2
    simp only at h9
    omega
  · unfold scI at hx
    obtain ⟨a, ha, hx⟩ := List.mem_flatMap.1 hx
    unfold sc1 at hx
    obtain ⟨b, _, rfl⟩ := List.mem_map.1 hx
    obtain ⟨k, hk, rfl⟩ := List.mem_iff_getElem.1 ha
    rw [List.length_drop] at hk
    rw [List.getElem_drop] at he
    have := List.pairwise_iff_getElem.1 hI i (i + 1 + k) hi (by omega) (by omega)
    have h9 := he.1
    simp only at h9
    omega
set_option maxHeartbeats 16000000 in
theorem rkneeds_all (w : World) (n : Nat) (h1n : 1 ≤ n) (h25 : n ≤ 15) (a : Option Addr) (ln c : Nat) (T : List T3) (hT : T.length = ln) (hr : Rd w 3 (.slice a ln c) ln (T.flatMap c3T)) (hln : ln ≤ 60) (av : Int) :
    Calls Try.prog 7 #[.int .i64 (n : Int), .slice a ln c, .int .i64 av] w fun e w' => e = .returned (.bool true) ∧ Mod (fun _ => False) w w' := by
  obtain ⟨iA, hiA, hzA, hsA, hbA⟩ := info_parts Nt.infoA
  obtain ⟨iI, hiI, hzI, hsI, hbI⟩ := info_parts Nt.infoI
  have y0 : decide ((n : Int) < 1) = false := by simp; omega
  have y1 : decide ((15 : Int) < (n : Int)) = false := by simp; omega
  have y2 : decide ((60 : Int) < (ln : Int)) = false := by simp; omega
  have y2n : decide (60 < ln) = false := by simp; omega
  have hn0 : (0 : Int) < (n : Int) := by omega
  have hn1 : (n : Int) ≤ 4611686018427387904 := by omega
  obtain ⟨v, hvv⟩ := Int.eq_ofNat_of_zero_le (Int.emod_nonneg av (b := (n : Int)) (by omega))
  have hv : v < n := by have := Int.emod_lt_of_pos av hn0; omega
  have HRO := Lib.hid (fun W => round_any av n W hn0 hn1)
  rw [hvv] at HRO
  have HMD := Lib.hid (made15_any w n (by omega) a ln c T hT hr (by omega))
  have HW := Lib.hid (net15 n T)
  have hle := arcsR_len (n : Int) T
  have hle0 : (putAllN (arcsR (n : Int) T)).length ≤ 60 := by
    have h := (putAll_ok (arcsR (n : Int) T) [] (NetOk.nil n) (arcsR_may T)).2
    unfold putAllN
    simp only [List.length_nil] at h; omega
  obtain ⟨L, hL⟩ : ∃ L, putAllN (arcsR (n : Int) T) = L := ⟨_, rfl⟩
  rw [hL] at HMD HW hle0
  have HLE : Hid (L.length ≤ 10000) := Lib.hid (by omega)
  obtain ⟨D, hD⟩ := DOk.ex n (by omega) L
  have HD := Lib.hid hD
  clear hL hT hr hle hle0 hD
  go_enter Try.func7, Try.ntmps7
  go_wp2_with fail
  refine HMD.out.mono ?_
  rintro e w1 ⟨q, F, m, rfl, hnt, hrn, hF, hmz, hm⟩
  have HN := Lib.hid (And.intro hnt hrn)
  have HM1 := Lib.hid hm
  have HFF := Lib.hid (And.intro hF hmz)
  clear hnt hrn hF hmz hm HMD
  go_wp2_with fail
  refine (HRO.out _).mono ?_
  rintro e w' ⟨rfl, rfl⟩
  go_wp2_with fail
  refine (rk_sc HN.out.1 HW.out HD.out v hv).mono ?_
  rintro e w2 ⟨a2, c2, rfl, ho2, hm2⟩
  have HN2 := Lib.hid (And.intro (HN.out.1.later hm2) (HN.out.2.later hm2))
  have HM2 := Lib.hid (HM1.out.of2 hm2)
  have HO2 := Lib.hid (Rd.ofOwn ho2)
  clear hm2 ho2
  go_wp2_with fail
  refine (rn_in HN2.out.2 HLE.out (v : Int)).mono ?_
  rintro e w3 ⟨ia, ic, rfl, hi3, hm3⟩
  have HI3 := Lib.hid (Rd.ofOwn hi3)
  have HM3 := Lib.hid hm3
  clear hm3 hi3
  go_wp2_with fail
  refine (rn_out (HN2.out.2.later HM3.out) HN.out.1.ok HLE.out (v : Int)).mono ?_
  rintro e w4 ⟨oa, oc, rfl, ho4, hm4⟩
  have HO4 := Lib.hid (Rd.ofOwn ho4)
  have HM4 := Lib.hid (And.intro hm4 (HM3.out.of2 hm4))
  clear hm4 ho4
  go_wp2_with fail
  refine (rn_copy (HN2.out.2.later HM4.out.2) HLE.out).mono ?_
  rintro e w5 ⟨p, rfl, hrg5, hp5, hm5⟩
  have HC5 := Lib.hid (And.intro hrg5 (And.intro hp5 hm5))
  clear hrg5 hp5 hm5
  go_wp2_with fail
  refine (rn_cut HC5.out.1 HLE.out (v : Int)).mono ?_
  rintro e w6 ⟨rfl, hrg6, hm6⟩
  have hm46 : Mod (fun _ => False) w4 w6 := HC5.out.2.2.trans hm6 (fun _ _ e => e) (fun k hk e => by have e2 : k = p := e; have := HC5.out.2.1; omega)
  have HRN6 := Lib.hid hrg6.rn
  have HR6 := Lib.hid (And.intro ((HO2.out.keep HM4.out.2 (fun _ _ e => e)).keep hm46 (fun _ _ e => e)) (And.intro ((HI3.out.keep HM4.out.1 (fun _ _ e => e)).keep hm46 (fun _ _ e => e)) (HO4.out.keep hm46 (fun _ _ e => e))))
  have HM6 := Lib.hid (HM2.out.of2 (HM4.out.2.of2 hm46))
  have HCW : Hid ((∀ b ∈ cutN L (v : Int), b.w ≤ 65535) ∧ (cutN L (v : Int)).length ≤ 10000) := Lib.hid ⟨fun b hb => HW.out b (List.mem_filter.1 hb).1, Nat.le_trans (List.length_filter_le _ _) HLE.out⟩
  clear hrg6 hm6 hm46 HI3 HO4 HO2
  have hIl := inL_len HN.out.1.ok (v : Int)
  have hOl := outL_len HN.out.1.ok (v : Int)
  have hsl : (scR D L (v : Int)).length ≤ 225 := by
    have h1 := scI_len D L (v : Int) (inL L (v : Int))
    have h4 := Nat.mul_le_mul hIl hOl
    have h5 : n * n ≤ 15 * 15 := Nat.mul_le_mul h25 h25
    have h6 : (scR D L (v : Int)).length = (scI D L (v : Int) (inL L (v : Int))).length := rfl
    omega
  have HNX := Lib.hid (fun (i j : Nat) (hi : i < (inL L (v : Int)).length) (hj : j < (outL L (v : Int)).length) => sc_next (D := D) (inL_rise HN.out.1.ok (v : Int)) (outL_rise HN.out.1.ok (v : Int)) hi hj)
  obtain ⟨S, hS⟩ : ∃ y, scR D L (v : Int) = y := ⟨_, rfl⟩
  have HSQ : Hid (S = scI D L (v : Int) (inL L (v : Int))) := Lib.hid hS.symm
  rw [hS] at HR6 hsl ⊢
  obtain ⟨I, hI⟩ : ∃ y, inL L (v : Int) = y := ⟨_, rfl⟩
  obtain ⟨O, hO⟩ : ∃ y, outL L (v : Int) = y := ⟨_, rfl⟩
  rw [hI, hO] at HR6
  rw [hI] at hIl HSQ ⊢
  rw [hO] at hOl ⊢
  obtain ⟨ns, hns⟩ : ∃ y, S.length = y := ⟨_, rfl⟩
  obtain ⟨ni, hni⟩ : ∃ y, I.length = y := ⟨_, rfl⟩
  obtain ⟨no, hno⟩ : ∃ y, O.length = y := ⟨_, rfl⟩
  have HR7 := Lib.hid (by have h := HR6.out; rw [hns, hni, hno] at h; exact h)
  rw [hns] at hsl ⊢
  rw [hni] at hIl ⊢
  rw [hno] at hOl ⊢
  have HIO := Lib.hid (And.intro hI (And.intro hO (And.intro hns (And.intro hni hno))))
  clear hS hI hO hns hni hno HR6
  go_wp2_with fail
  go_loopw [14, 15] (fun kv i wr => ∃ k : Nat, k ≤ ni ∧ i = .int .i64 k ∧ kv = .int .i64 ((scI D L (v : Int) (I.take k)).length : Int) ∧ Mod (fun _ => False) w6 wr) (fun _ i _ => ni - (intOf i).toNat)
  case atStart => exact ⟨0, by omega, rfl, by rw [List.take_zero]; rfl, Mod.refl _ _⟩
  case round =>
    obtain ⟨k, hk, rfl, rfl, hm⟩ := hrel
    obtain ⟨wo, hwo⟩ : ∃ x : World, x = wr := ⟨_, rfl⟩
    subst hwo
    have HM := Lib.hid hm
    clear hm
    have hql : (scI D L (v : Int) (I.take k)).length ≤ 225 := by
      have h1 := scI_len D L (v : Int) (I.take k)
      have h2 : (I.take k).length ≤ 15 := by rw [List.length_take]; have := HIO.out.2.2.2.1; omega
      have h3 : (outL L (v : Int)).length ≤ 15 := by rw [HIO.out.2.1, HIO.out.2.2.2.2]; omega
      have := Nat.mul_le_mul h2 h3
      omega
    by_cases hlt : k < ni
    case neg =>
      have z0 : decide ((k : Int) < (ni : Int)) = false := by simp; omega
      have hq : (scI D L (v : Int) (I.take k)).length = ns := by
        rw [List.take_of_length_le (by have := HIO.out.2.2.2.1; omega), ← HSQ.out, HIO.out.2.2.1]
      rw [hq] at hql ⊢
      clear hq
      have z1 : ((ns : Int) == (ns : Int)) = true := by simp
      go_wp2_with fail
      refine (awake15_any _).mono ?_
      rintro e w9 ⟨rfl, hm9⟩
      go_wp2_with fail
      go_ret
      exact ⟨rfl, (HM6.out.of2 HM.out).of2 hm9⟩
    case pos =>
      have z0 : decide ((k : Int) < (ni : Int)) = true := by simp; omega
      have hkl : k < I.length := by rw [HIO.out.2.2.2.1]; exact hlt
      have hrI := HR7.out.2.1.keep HM.out (fun _ _ e => e)
      obtain ⟨eb, eo, hpe, e0, e1, e2, e3⟩ := rd4 hrI k hkl
      have hix := fun wx => run_indexS (P := Try.prog) wx 30 42 iA 4 Try.underlying30 hiA hsA ia ni ic k hlt (hrI.some_ (by omega))
      rw [hpe] at hix
      obtain ⟨x, hx⟩ : ∃ a, I[k] = a := ⟨_, rfl⟩
      rw [hx] at e0 e1 e2 e3
      have hak : I.take (k + 1) = I.take k ++ [x] := by rw [List.take_succ_eq_append_getElem hkl, hx]
      have haI : x ∈ inL L (v : Int) := by rw [HIO.out.1, ← hx]; exact List.getElem_mem hkl
      have haL : x ∈ L := (List.mem_filter.1 haI).1
      have hat := of_decide_eq_true (List.mem_filter.1 haI).2
      have hmay := HN.out.1.ok.may x haL
      unfold mayA at hmay
      have haw := HW.out x haL
      obtain ⟨fa, hfa⟩ := Int.eq_ofNat_of_zero_le hmay.1
      obtain ⟨af, at_, aw, am⟩ := x
      simp only at e0 e1 e2 e3 hfa haw hmay hat
      subst hfa
      have haw1 := hmay.2.2.2.2.2.1
      have hfan : fa < n := by omega
      have hfav : fa ≠ v := by omega
      have hAL := Lib.hid (rn_all (HRN6.out.later HM.out) (cut_okK HN.out.1.ok (v : Int)) HCW.out.1 (by omega) HCW.out.2 (fa : Int) (D fa (v : Int)) (cut_farK hfav (HD.out fa (v : Int))))
      have HA := Lib.hid (And.intro hx (And.intro hak (And.intro hfav hfan)))
      clear hak haI haL hat hmay hpe hx hrI hfav hfan
      go_wp2_with fail
      refine hAL.out.mono ?_
      rintro e w7 ⟨da, dc, rfl, ho7, hm7⟩
      have H7 := Lib.hid (And.intro (Rd.ofOwn ho7) (HM.out.of2 hm7))
      clear ho7 hm7 hAL e0 e1 e2 e3 hix
      go_wp2_with fail
      go_loopw [14, 17] (fun kv i wr => ∃ j : Nat, j ≤ no ∧ i = .int .i64 j ∧ kv = .int .i64 ((scI D L (v : Int) (I.take k) ++ sc1 D (v : Int) ⟨(fa : Int), at_, aw, am⟩ (O.take j)).length : Int) ∧ Mod (fun _ => False) w7 wr) (fun _ i _ => no - (intOf i).toNat)
      case atStart => exact ⟨0, by omega, rfl, by rw [List.take_zero]; unfold sc1; simp, Mod.refl _ _⟩
      case round =>
        obtain ⟨j, hj, rfl, rfl, hm⟩ := hrel
        obtain ⟨wi, hwi⟩ : ∃ x : World, x = wr := ⟨_, rfl⟩
        subst hwi
        have HMI := Lib.hid hm
        clear hm
        obtain ⟨q, hq⟩ : ∃ y, (scI D L (v : Int) (I.take k) ++ sc1 D (v : Int) ⟨(fa : Int), at_, aw, am⟩ (O.take j)).length = y := ⟨_, rfl⟩
        have hqb : q ≤ 240 := by
          rw [← hq, List.length_append]
          have h2 := sc1_len D (v : Int) ⟨(fa : Int), at_, aw, am⟩ (O.take j)
          have h6 : (O.take j).length ≤ 15 := by rw [List.length_take]; have := HIO.out.2.2.2.2; omega
          omega
        rw [hq]
        have HQ := Lib.hid hq
        clear hq
        by_cases hjt : j < no
        case neg =>
          have z1 : decide ((j : Int) < (no : Int)) = false := by simp; omega
          have hjn : no ≤ j := by omega
          go_wp2_with fail
          go_roundw
          case rel =>
            refine ⟨k + 1, hlt, by go_num, ?_, H7.out.2.of2 HMI.out⟩
            rw [HA.out.2.1, scI_step, HIO.out.2.1, ← HQ.out, List.take_of_length_le (l := O) (i := j) (by rw [HIO.out.2.2.2.2]; exact hjn)]
          case measure => simp [intOf]; omega
        case pos =>
          have z1 : decide ((j : Int) < (no : Int)) = true := by simp; omega
          have hjl : j < O.length := by rw [HIO.out.2.2.2.2]; exact hjt
          have hnx : ∃ R, S = (scI D L (v : Int) (I.take k) ++ sc1 D (v : Int) ⟨(fa : Int), at_, aw, am⟩ (O.take j)) ++ ((if ovB D (v : Int) ⟨(fa : Int), at_, aw, am⟩ O[j] then [] else [⟨(fa : Int), O[j].t, aw + O[j].w, (v : Int)⟩]) ++ R) ∧ ∀ x ∈ R, ¬ (x.f = (fa : Int) ∧ x.t = O[j].t) := by
            have h := HNX.out k j (by rw [HIO.out.1]; exact hkl) (by rw [HIO.out.2.1]; exact hjl)
            have hI := HIO.out.1
            have hO := HIO.out.2.1
            subst hI hO
            rw [HSQ.out]
            have hx := HA.out.1
            rw [hx] at h
            exact h
          have hrI := HR7.out.2.1.keep (H7.out.2.of2 HMI.out) (fun _ _ e => e)
          have hrO := HR7.out.2.2.keep (H7.out.2.of2 HMI.out) (fun _ _ e => e)
          have hrS := HR7.out.1.keep (H7.out.2.of2 HMI.out) (fun _ _ e => e)
          obtain ⟨eb, eo, hpe, e0, e1, e2, e3⟩ := rd4 hrI k hkl
          rw [HA.out.1] at e0 e1 e2 e3
          have hix := fun wx => run_indexS (P := Try.prog) wx 30 42 iA 4 Try.underlying30 hiA hsA ia ni ic k hlt (hrI.some_ (by omega))
          rw [hpe] at hix
          obtain ⟨pb, po, hpp, p0, p1, p2, p3⟩ := rd4 hrO j hjl
          have hix2 := fun wx => run_indexS (P := Try.prog) wx 30 42 iA 4 Try.underlying30 hiA hsA oa no oc j hjt (hrO.some_ (by omega))
          rw [hpp] at hix2
          have hbk : O.take (j + 1) = O.take j ++ [O[j]] := by rw [List.take_succ_eq_append_getElem hjl]
          have hbO : O[j] ∈ outL L (v : Int) := by rw [HIO.out.2.1]; exact List.getElem_mem hjl
          have hbL : O[j] ∈ L := (List.mem_filter.1 hbO).1
          have hmay := HN.out.1.ok.may O[j] hbL
          unfold mayA at hmay
          have hbw := HW.out O[j] hbL
          obtain ⟨b, hb⟩ : ∃ b, O[j] = b := ⟨_, rfl⟩
          rw [hb] at p0 p1 p2 p3 hbk hmay hbw hnx
          obtain ⟨tb, htb⟩ := Int.eq_ofNat_of_zero_le hmay.2.2.1
          obtain ⟨bf, bt, bw, bm⟩ := b
          simp only at e0 e2 p1 p2 hbw hmay hnx htb
          subst htb
          have hbw1 := hmay.2.2.2.2.2.1
          have htn : tb < n := by omega
          have hsum : IntKind.i64.wrap (aw + bw) = aw + bw := IntWalk.i64_in _ (by omega)
          have leb := World.block_lt_of_cell? _ _ e0
          have lpb := World.block_lt_of_cell? _ _ p1
          obtain ⟨f, hf⟩ : ∃ f, ovB D (v : Int) ⟨(fa : Int), at_, aw, am⟩ ⟨bf, (tb : Int), bw, bm⟩ = f := ⟨_, rfl⟩
          have hf2 : foundB (D fa (v : Int)) (tb : Int) (aw + bw) 30 = f := by rw [← hf]; unfold ovB; rw [Int.toNat_natCast]
          rw [hf] at hnx
          obtain ⟨R, hSR, hRn⟩ := hnx
          have hstep : (scI D L (v : Int) (I.take k) ++ sc1 D (v : Int) ⟨(fa : Int), at_, aw, am⟩ (O.take (j + 1))).length = q + (if f then 0 else 1) := by
            rw [hbk, sc1_step, hf, ← List.append_assoc, List.length_append, HQ.out]
            cases f <;> rfl
          have hself : fa = tb → f = true := fun e => by
            rw [← hf2, ← e]
            exact found_self (HD.out fa (v : Int)) HA.out.2.2.2 (by have := HA.out.2.2.1; omega) _ (by omega)
          have hfi2 : f = true → 0 ≤ dAt (D fa (v : Int)) tb ∧ dAt (D fa (v : Int)) tb ≤ aw + bw := fun e => by
            rw [e] at hf2
            have := foundB_iff.1 hf2
            exact ⟨this.1, this.2.1⟩
          have HSR := Lib.hid (And.intro hSR (And.intro hRn hrS))
          have HST := Lib.hid (And.intro hstep (And.intro hself hfi2))
          clear e1 e3 p0 p3 hbk hbO hbL hmay hrI hrO hrS hjl hpe hpp hf hf2 hSR hRn hstep hself hfi2 hb
          go_upto_region 19 with fail
          go_quiet (fail)
          clear e0 e2 p1 p2 hix hix2 leb lpb hsum
          have HM8 := Lib.hid (HMI.out.of2 (Mod.drewN (fun _ => False) wi nq))
          obtain ⟨w8, hw8⟩ : ∃ y, World.drewN wi nq = y := ⟨_, rfl⟩
          rw [hw8] at HM8 ⊢
          clear hw8
          cases f with
          | true =>
            by_cases hft : fa = tb
            · have z2 : ((fa : Int) == (tb : Int)) = true := by rw [beq_iff_eq]; omega
              have z2n : (fa == tb) = true := by rw [beq_iff_eq]; exact hft
              clear hft
              go_wp2_with fail
              go_roundw
              case rel => exact ⟨j + 1, hjt, by go_num, by rw [HST.out.1]; rfl, HM8.out⟩
              case measure => simp [intOf]; omega
            · have z2 : ((fa : Int) == (tb : Int)) = false := by rw [beq_eq_false_iff_ne]; omega
              have z2n : (fa == tb) = false := by rw [beq_eq_false_iff_ne]; exact hft
              have hdl : (D fa (v : Int)).length = n := (HD.out fa (v : Int)).len
              have hr7 := H7.out.1.keep HM8.out (fun _ _ e => e)
              obtain ⟨b1, o1, hp1, c1⟩ := rd1 hr7 tb (by omega)
              have hi1 := fun wx => run_indexS (P := Try.prog) wx 44 3 iI 1 Try.underlying44 hiI hsI da n dc tb htn (hr7.some_ (by omega))
              rw [hp1] at hi1
              obtain ⟨q1, hq1⟩ : ∃ z, (D fa (v : Int))[tb]'(by omega) = z := ⟨_, rfl⟩
              rw [hq1] at c1
              have hfq := HST.out.2.2 rfl
              rw [dAt_eq _ tb (by omega), hq1] at hfq
              have z5 : decide (q1 < 0) = false := decide_eq_false (by omega)
              have z6 : decide (aw + bw < q1) = false := decide_eq_false (by omega)
              clear hft hdl hr7 hp1 hq1 hfq
              by_cases hqn : q < ns
              · have z3 : decide ((q : Int) < (ns : Int)) = true := by simp; omega
                have hql2 : q < S.length := by rw [HIO.out.2.2.1]; exact hqn
                have hrS := HSR.out.2.2.keep (Mod.refl (fun _ => False) wi) (fun _ _ e => e)
                have hrS8 := HR7.out.1.keep (H7.out.2.of2 HM8.out) (fun _ _ e => e)
                obtain ⟨sb, so, hps, s0, s1, s2, s3⟩ := rd4 hrS8 q hql2
                have hix3 := fun wx => run_indexS (P := Try.prog) wx 30 42 iA 4 Try.underlying30 hiA hsA a2 ns c2 q hqn (hrS8.some_ (by omega))
                rw [hps] at hix3
                have hSq : ¬ (S[q].f = (fa : Int) ∧ S[q].t = (tb : Int)) := by
                  have hR := HSR.out.2.1
                  have hm : S[q] ∈ R := by
                    have h1 : S[q]? = some S[q] := List.getElem?_eq_getElem hql2
                    have h2 := HSR.out.1
                    rw [if_pos rfl, List.nil_append] at h2
                    have h3 : S[q]? = R[0]? := by
                      conv => lhs; rw [h2]
                      rw [List.getElem?_append_right (by rw [HQ.out]; exact Nat.le_refl _), HQ.out, Nat.sub_self]
                    rw [h1] at h3
                    exact List.mem_of_getElem? h3.symm
                  exact hR _ hm
                obtain ⟨y, hy⟩ : ∃ y, S[q] = y := ⟨_, rfl⟩
                rw [hy] at s0 s1 s2 s3 hSq
                obtain ⟨sf, st, sw, sm⟩ := y
                simp only at s0 s1 s2 s3 hSq
                by_cases hsf : sf = (fa : Int)
                · subst hsf
                  have hst : st ≠ (tb : Int) := fun e => hSq ⟨rfl, e⟩
                  have z7 : (st == (tb : Int)) = false := beq_eq_false_iff_ne.2 hst
                  have z7b : decide (st = (tb : Int)) = false := decide_eq_false hst
                  clear hst hSq hy hrS hrS8 hps hql2
                  go_wp2_with fail
                  go_roundw
                  case rel => exact ⟨j + 1, hjt, by go_num, by rw [HST.out.1]; rfl, HM8.out⟩
                  case measure => simp [intOf]; omega
                · have z7 : (sf == (fa : Int)) = false := beq_eq_false_iff_ne.2 hsf
                  have z7b : decide (sf = (fa : Int)) = false := decide_eq_false hsf
                  clear hsf hSq hy hrS hrS8 hps hql2
                  go_wp2_with fail
                  go_roundw
                  case rel => exact ⟨j + 1, hjt, by go_num, by rw [HST.out.1]; rfl, HM8.out⟩
                  case measure => simp [intOf]; omega
              · have z3 : decide ((q : Int) < (ns : Int)) = false := by simp; omega
                go_wp2_with fail
                go_roundw
                case rel => exact ⟨j + 1, hjt, by go_num, by rw [HST.out.1]; rfl, HM8.out⟩
                case measure => simp [intOf]; omega
          | false =>
            have hne : fa ≠ tb := fun e => by have := HST.out.2.1 e; cases this
            have z2 : ((fa : Int) == (tb : Int)) = false := by rw [beq_eq_false_iff_ne]; omega
            have z2n : (fa == tb) = false := by rw [beq_eq_false_iff_ne]; exact hne
            have h3 : S[q]? = some ⟨(fa : Int), (tb : Int), aw + bw, (v : Int)⟩ := by
              have h2 := HSR.out.1
              rw [if_neg (by simp)] at h2
              rw [h2, List.getElem?_append_right (by rw [HQ.out]; exact Nat.le_refl _), HQ.out, Nat.sub_self]
              rfl
            have hql2 : q < S.length := by
              rcases Nat.lt_or_ge q S.length with h | h
              · exact h
              · rw [List.getElem?_eq_none h] at h3; cases h3
            have hqn : q < ns := by rw [← HIO.out.2.2.1]; exact hql2
            have z3 : decide ((q : Int) < (ns : Int)) = true := by simp; omega
            have hrS8 := HR7.out.1.keep (H7.out.2.of2 HM8.out) (fun _ _ e => e)
            obtain ⟨sb, so, hps, s0, s1, s2, s3⟩ := rd4 hrS8 q hql2
            have hix3 := fun wx => run_indexS (P := Try.prog) wx 30 42 iA 4 Try.underlying30 hiA hsA a2 ns c2 q hqn (hrS8.some_ (by omega))
            rw [hps] at hix3
            rw [List.getElem?_eq_getElem hql2] at h3
            have h4 := Option.some.inj h3
            rw [h4] at s0 s1 s2 s3
            clear hne h3 h4 hql2 hrS8 hps
            go_wp2_with fail
            go_roundw
            case rel => exact ⟨j + 1, hjt, by go_num, by rw [HST.out.1]; go_num, HM8.out⟩
            case measure => simp [intOf]; omega
theorem rkneeds_law (w : World) (nv : Int) (_ : (Lit.int .i64 nv).wf = true) (a : Option Addr) (ln c : Nat) (T : List T3) (ok : (encSlice enc3).ok w (.slice a ln c, T)) (av : Int) (_ : (Lit.int .i64 av).wf = true) :
    Calls Try.prog 7 #[.int .i64 nv, .slice a ln c, .int .i64 av] w fun e w' => e = .returned (.bool true) ∧ Below w.heap.size w w' := by
  obtain ⟨hT, hr⟩ := ok_t3 ok
  suffices h : Calls Try.prog 7 #[.int .i64 nv, .slice a ln c, .int .i64 av] w fun e w' => e = .returned (.bool true) ∧ Mod (fun _ => False) w w' from
    h.mono fun e w' h => ⟨h.1, h.2.below (Nat.le_refl _) (fun _ e => e.elim)⟩
  by_cases hno : ¬ (1 ≤ nv ∧ nv ≤ 15 ∧ ln ≤ 60)
  case pos =>
    clear hr hT ok
    have hend : ∀ (b0 b1 b2 : Bool), decide (nv < 1) = b0 → decide (15 < nv) = b1 → decide (60 < (ln : Int)) = b2 → (b0 || b1 || b2) = true →
        Calls Try.prog 7 #[.int .i64 nv, .slice a ln c, .int .i64 av] w fun e w' => e = .returned (.bool true) ∧ Mod (fun _ => False) w w' := by
      intro b0 b1 b2 hc0 hc1 hc2 hbb
      clear hno
      cases b0
      · skip
        cases b1
        · skip
          cases b2
          · cases hbb
          · clear hbb 
            go_enter Try.func7, Try.ntmps7
            go_wp2_with fail
            refine (awake15_any _).mono ?_
            rintro e w9 ⟨rfl, hm9⟩
            go_wp2_with fail
            go_ret
            exact ⟨rfl, hm9⟩
        · clear hbb hc2
          go_enter Try.func7, Try.ntmps7
          go_wp2_with fail
          refine (awake15_any _).mono ?_
          rintro e w9 ⟨rfl, hm9⟩
          go_wp2_with fail
          go_ret
          exact ⟨rfl, hm9⟩
      · clear hbb hc1 hc2
        go_enter Try.func7, Try.ntmps7
        go_wp2_with fail
        refine (awake15_any _).mono ?_
        rintro e w9 ⟨rfl, hm9⟩
        go_wp2_with fail
        go_ret
        exact ⟨rfl, hm9⟩
    refine hend _ _ _ rfl rfl rfl ?_
    simp only [Bool.or_eq_true, decide_eq_true_eq]
    omega
  case neg =>
    have hyes := Decidable.not_not.1 hno
    obtain ⟨n, rfl⟩ := Int.eq_ofNat_of_zero_le (show 0 ≤ nv by omega)
    exact rkneeds_all w n (by omega) (by omega) a ln c T hT hr (by omega) av
end Go.Proofs.Ytepnlijdnabllaa
