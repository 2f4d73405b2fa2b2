/- UnpackRows by contract. -/
import Derived.Test.YtjjedebjbgpimaaGreatUTells17
import Derived.Test.YtjjedebjbgpimaaGreatKMd
namespace Go.Proofs.YtjjedebjbgpimaaGreat
open Go.RowKit Mile
set_option maxRecDepth 100000
theorem rowAt_pre {T : List Ar} {k : Nat} {st : List Int} (x : Int) : ∀ j, j < st.length → rowAt T k (st ++ [x]) j = rowAt T k st j := by
  have hg : ∀ i, i < st.length → (st ++ [x]).getD i 0 = st.getD i 0 := fun i hi => by simp [List.getD, List.getElem?_append_left hi]
  intro j
  induction j with
  | zero => intro h; show some [(st ++ [x]).getD 0 0] = some [st.getD 0 0]; rw [hg 0 h]
  | succ j ih =>
    intro h
    have h1 := ih (by omega)
    show (match rowAt T k (st ++ [x]) j, unL T k ((st ++ [x]).getD j 0) ((st ++ [x]).getD (j + 1) 0) with | some o, some x => some (o ++ x.drop 1) | _, _ => none) = (match rowAt T k st j, unL T k (st.getD j 0) (st.getD (j + 1) 0) with | some o, some x => some (o ++ x.drop 1) | _, _ => none)
    rw [h1, hg j (by omega), hg (j + 1) h]
theorem rowAt_more {T : List Ar} {k : Nat} {st : List Int} {v x : Int} {o r : List Int} {m : Nat} (hm : st.length = m + 1) (hv : st.getD m 0 = v) (h1 : rowAt T k st m = some o) (h2 : unL T k v x = some r) : rowAt T k (st ++ [x]) (m + 1) = some (o ++ r.drop 1) := by
  have e1 : (st ++ [x]).getD m 0 = v := by rw [← hv]; simp [List.getD, List.getElem?_append_left (show m < st.length by omega)]
  have e2 : (st ++ [x]).getD (m + 1) 0 = x := by simp [List.getD, hm]
  exact rowAt_step (by rw [rowAt_pre x m (by omega)]; exact h1) (by rw [e1, e2]; exact h2)
structure URS (n : Nat) (T : List Ar) (w0 : World) (j v : Nat) (sts wts : List Int) (as_ aw : Option Addr) (cs cw : Nat) (W : World) : Prop where
  vn : v < n
  len : ∃ m, sts.length = m + 1 ∧ m ≤ j ∧ sts.getD m 0 = (v : Int) ∧ rowAt T (n + 1) sts m = some wts
  wl : wts.length ≤ 1 + j * 1048577
  ins : ∀ x ∈ sts, 0 ≤ x ∧ x < (n : Int)
  os : W.ownsRow w0.heap.size 3 1 (.slice as_ sts.length cs) sts.length (sts.map (Value.int .i64))
  ow : W.ownsRow w0.heap.size 3 1 (.slice aw wts.length cw) wts.length (wts.map (Value.int .i64))
  ne : ∀ k, (Value.slice as_ sts.length cs).ownBlock = some k → (Value.slice aw wts.length cw).ownBlock ≠ some k
  mod : Mod (fun _ => False) w0 W
theorem URS.later {n : Nat} {T : List Ar} {w0 : World} {j v : Nat} {sts wts : List Int} {as_ aw : Option Addr} {cs cw : Nat} {W W' : World} (h : URS n T w0 j v sts wts as_ aw cs cw W) (hm : Mod (fun _ => False) W W') : URS n T w0 j v sts wts as_ aw cs cw W' :=
  ⟨h.vn, h.len, h.wl, h.ins, Own.keep h.os hm (fun _ _ e => e), Own.keep h.ow hm (fun _ _ e => e), h.ne, h.mod.of2 hm⟩

set_option maxHeartbeats 64000000 in
theorem urows_all (w : World) (n : Nat) (h1n : 1 ≤ n) (h20 : n ≤ 20) (a : Option Addr) (ln c : Nat) (T0 : List T3) (hT : T0.length = ln) (hr : Rd w 3 (.slice a ln c) ln (T0.flatMap c3T)) (hln : ln ≤ 80) (fv : Int) (sa : Option Addr) (sn sc : Nat) (ss : List Int) (hss : ss.length = sn) (hrs : Rd w 1 (.slice sa sn sc) sn (ss.map (Value.int .i64))) (hsn : sn ≤ 12) :
    Calls Tryz.prog 8 #[.int .i64 (n : Int), .slice a ln c, .int .i64 fv, .slice sa sn sc] w fun e w' => e = .returned (.bool true) ∧ Mod (fun _ => False) w w' := by
  have y0 : decide ((n : Int) < 1) = false := by simp; omega
  have y1 : decide ((20 : Int) < (n : Int)) = false := by simp; omega
  have y2 : decide ((80 : Int) < (ln : Int)) = false := by simp; omega
  have y2n : decide (80 < ln) = false := by simp; omega
  have y3 : decide ((12 : Int) < (sn : Int)) = false := by simp; omega
  have y3n : decide (12 < sn) = false := by simp; omega
  obtain ⟨iA, hiA, hzA, hsA, hbA⟩ := info_parts Nt.infoA
  obtain ⟨iI, hiI, hzI, hsI, hbI⟩ := info_parts Nt.infoI
  obtain ⟨P, hP⟩ := pick17 n (by omega)
  have HBU := Lib.hid (built17_any w n (by omega) a ln c T0 hT hr (by omega) P hP)
  have h17 := lv17 (P := P) h20 T0
  obtain ⟨L, hL⟩ : ∃ L, net17 n T0 = L := ⟨_, rfl⟩
  unfold Bu17P at HBU
  rw [hL] at HBU h17
  obtain ⟨T, hTT⟩ : ∃ y, (bAt n P L n).T = y := ⟨_, rfl⟩
  obtain ⟨V, hVV⟩ : ∃ y, (bAt n P L n).V = y := ⟨_, rfl⟩
  rw [hTT, hVV] at HBU h17
  have H17 := Lib.hid h17
  have HROW := Lib.hid (fun (W : World) (p : Nat) (F : Nat → Prop) (h : LO W p n T V F) (sa : Option Addr) (sc : Nat) (st : List Int) (hb : st.length ≤ 1000) (hwf : ∀ x ∈ st, 0 ≤ x ∧ x < (n : Int)) (hr : Rd W 1 (.slice sa st.length sc) st.length (st.map (Value.int .i64))) => urowp_any h (by omega) h17.hT h17.hL h17.hD h20 h17.hin sa st.length sc st rfl hr hb (fun x hx => (i64_wf _).2 (by have := hwf x hx; omega)))
  have HRS := Lib.hid hrs
  have HSS := Lib.hid hss
  clear hT hr hP hL hTT hVV h17 hrs hss
  go_enter Tryz.func8, Tryz.ntmps8
  go_wp2_with fail
  refine HBU.out.mono ?_
  rintro e w1 ⟨p, F, p2, tq, rd, m, rfl, hlo, _, _, hm⟩
  have HLO := Lib.hid (And.intro hlo hm)
  clear HBU hlo hm y0 y1 y2 y2n y3 y3n
  go_wp2_with fail
  refine (round_any fv (n : Int) _ (by omega) (by omega)).mono ?_
  rintro e w' ⟨rfl, rfl⟩
  have hr0 := Int.emod_nonneg fv (b := (n : Int)) (by omega)
  have hr1 := Int.emod_lt_of_pos fv (b := (n : Int)) (by omega)
  obtain ⟨v0, hr2⟩ := Int.eq_ofNat_of_zero_le hr0
  rw [hr2] at hr1 ⊢
  clear hr0 hr2
  have hv0 : v0 < n := by omega
  clear hr1
  go_wp2_with fail
  obtain ⟨b1, hb1⟩ : ∃ y, w1.heap.size = y := ⟨_, rfl⟩
  obtain ⟨wa, hwa⟩ : ∃ y, w1.alloc (.cells #[.int .i64 (v0 : Int)] 3) = y := ⟨_, rfl⟩
  have hza : wa.heap.size = b1 + 1 := by rw [← hwa, ← hb1]; exact heap_size_alloc _ _
  obtain ⟨wb, hwb⟩ : ∃ y, wa.alloc (.cells #[.int .i64 (v0 : Int)] 3) = y := ⟨_, rfl⟩
  have hma : Mod (fun _ => False) w1 wa := by rw [← hwa]; exact Mod.alloc _ _ _
  have hmb : Mod (fun _ => False) wa wb := by rw [← hwb]; exact Mod.alloc _ _ _
  have hoa : wa.ownsRow w1.heap.size 3 1 (.slice (some ⟨b1, 0, none⟩) 1 1) 1 ([(v0 : Int)].map (Value.int .i64)) := by rw [← hwa, ← hb1]; exact World.ownsRow_lit (base := w1.heap.size) (e := 3) (size := 1) w1 #[.int .i64 (v0 : Int)] 1 (Nat.le_refl _) (by unfold maxLen; omega) rfl
  have hob : wb.ownsRow w1.heap.size 3 1 (.slice (some ⟨b1 + 1, 0, none⟩) 1 1) 1 ([(v0 : Int)].map (Value.int .i64)) := by rw [← hwb, ← hza]; exact World.ownsRow_lit (base := w1.heap.size) (e := 3) (size := 1) wa #[.int .i64 (v0 : Int)] 1 hma.size (by unfold maxLen; omega) rfl
  have HU0 : Hid (URS n T w1 0 v0 [(v0 : Int)] [(v0 : Int)] (some ⟨b1, 0, none⟩) (some ⟨b1 + 1, 0, none⟩) 1 1 wb) := Lib.hid ⟨hv0, ⟨0, rfl, Nat.le_refl _, rfl, rfl⟩, by simp, fun x hx => by rw [List.mem_singleton] at hx; omega, Own.keep hoa hmb (fun _ _ e => e), hob, fun k hk e => by have h1 := own_blk hoa hk; have h2 := own_blk hob e; omega, hma.of2 hmb⟩
  (try rw [hwa])
  (try rw [hb1])
  (try rw [hza])
  (try rw [hwb])
  clear hoa hob hma hmb hwa hwb hza hb1
  go_loopw [12, 13, 14, 15] (fun vv vs vw vi wr => ∃ j v sts wts as_ aw cs cw, j ≤ sn ∧ vi = .int .i64 ((j : Nat) : Int) ∧ vv = .int .i64 ((v : Nat) : Int) ∧ vs = .slice as_ (List.length sts) cs ∧ vw = .slice aw (List.length wts) cw ∧ URS n T w1 j v sts wts as_ aw cs cw wr) (fun _ _ _ vi _ => sn - (intOf vi).toNat)
  case atStart => exact ⟨0, v0, [(v0 : Int)], [(v0 : Int)], _, _, 1, 1, Nat.zero_le _, rfl, rfl, rfl, rfl, HU0.out⟩
  case round =>
    clear HU0
    obtain ⟨j, v, sts, wts, as_, aw, cs, cw, hj, rfl, rfl, rfl, rfl, hus⟩ := hrel
    have hv := hus.vn
    have HS := Lib.hid hus
    clear hus
    by_cases hlt : j < sn
    case pos =>
      have z0 : decide ((j : Int) < (sn : Int)) = true := by simp; omega
      obtain ⟨tl, rdb, mb, FT, hlv, _⟩ := HLO.out.1.later HS.out.mod
      have q0 := hlv.blk.cell 0 rfl
      have HNO := Lib.hid (nt_out hlv.net (v : Int))
      unfold NewR at HNO
      have hmemO := fun (x : Ar) (hx : x ∈ outL T (v : Int)) => mem_outL.1 hx
      have hlo20 := outL_len H17.out.hT (v : Int)
      obtain ⟨O, hO⟩ : ∃ y, outL T (v : Int) = y := ⟨_, rfl⟩
      rw [hO] at HNO hmemO hlo20
      obtain ⟨lo, hlo⟩ : ∃ y, O.length = y := ⟨_, rfl⟩
      rw [hlo] at HNO hlo20
      have HLEN := Lib.hid hlo
      have HMEM := Lib.hid hmemO
      clear hlv hO hlo hmemO
      go_wp2_with fail
      refine HNO.out.mono ?_
      rintro e w2 ⟨ao, co, rfl, hoo, hm2⟩
      have HS2 := Lib.hid (HS.out.later hm2)
      have HRO := Lib.hid (Rd.ofOwn hoo)
      clear hm2 hoo HNO HS q0
      by_cases hl0 : lo = 0
      · have z1 : ((lo : Int) == 0) = true := by simp; omega
        go_wp2_with fail
        refine (HROW.out _ p F (HLO.out.1.later HS2.out.mod) as_ cs sts (by obtain ⟨m, g1, g2, _⟩ := HS2.out.len; omega) HS2.out.ins (Rd.ofOwn HS2.out.os)).mono ?_
        rintro e w8 (⟨o, ax, cx, hu, hol, rfl, ho, hm2⟩ | ⟨hu, rfl, hm2⟩)
        · have hoe : o = wts := by
            obtain ⟨m, g1, g2, g3, g4⟩ := HS2.out.len
            unfold RowU at hu
            rw [if_neg (by omega), show sts.length - 1 = m by omega, g4] at hu
            exact (Option.some.inj hu).symm
          subst hoe
          have HU := Lib.hid (And.intro ho (And.intro hm2 (And.intro (show o.length ≤ 1000000000 by have := HS2.out.wl; omega) (Rd.ofOwn HS2.out.ow))))
          clear hu ho hm2 hol
          obtain ⟨no, hno⟩ : ∃ y, o.length = y := ⟨_, rfl⟩
          rw [hno] at HU ⊢
          have HNO := Lib.hid hno
          clear hno
          go_wp2_with fail
          refine (ints_any _ ax no cx o HNO.out HU.out.1 aw no cw o HNO.out (HU.out.2.2.2.keep HU.out.2.1 (fun _ _ e => e)) HU.out.2.2.1).mono ?_
          rintro e w9 ⟨rfl, kd, hkd⟩
          have HD := Lib.hid (show Mod (fun _ => False) w8 w9 by rw [hkd]; exact Mod.drewN _ _ _)
          have hdt : decide (o = o) = true := by simp
          rw [hdt]
          clear hkd
          go_wp2_with fail
          refine (awake17_any _).mono ?_
          rintro e w10 ⟨rfl, hm5⟩
          have H5 := Lib.hid hm5
          clear hm5
          go_wp2_with fail
          go_ret
          exact ⟨rfl, (((HLO.out.2.of2 HS2.out.mod).of2 HU.out.2.1).of2 HD.out).of2 H5.out⟩
        · obtain ⟨m, g1, g2, g3, g4⟩ := HS2.out.len
          unfold RowU at hu
          rw [if_neg (by omega), show sts.length - 1 = m by omega, g4] at hu
          cases hu
      · have z1 : ((lo : Int) == 0) = false := by simp; omega
        obtain ⟨b2, o2, hp2, e2⟩ := rd1 (HRS.out.keep (HLO.out.2.of2 HS2.out.mod) (fun _ _ e => e)) j (by have := HSS.out; omega)
        obtain ⟨sv, hsv⟩ : ∃ y, ss[j]'(by have := HSS.out; omega) = y := ⟨_, rfl⟩
        rw [hsv] at e2
        have hix := fun wx => run_indexS (P := Tryz.prog) wx 40 3 iI 1 Tryz.underlying40 hiI hsI sa sn sc j hlt ((HRS.out).some_ (by omega))
        rw [hp2] at hix
        clear hp2 hsv
        go_wp2_with fail
        refine (round_any sv (lo : Int) _ (by omega) (by omega)).mono ?_
        rintro e w' ⟨rfl, rfl⟩
        have hr0 := Int.emod_nonneg sv (b := (lo : Int)) (by omega)
        have hr1 := Int.emod_lt_of_pos sv (b := (lo : Int)) (by omega)
        obtain ⟨x0, hr2⟩ := Int.eq_ofNat_of_zero_le hr0
        rw [hr2] at hr1 ⊢
        clear hr0 hr2 hix e2
        have hx0 : x0 < lo := by omega
        clear hr1
        obtain ⟨eb, eo, hpe, e0, e1, _, _⟩ := rd4 HRO.out x0 (by rw [HLEN.out]; exact hx0)
        have hmm := HMEM.out _ (List.getElem_mem (show x0 < O.length by rw [HLEN.out]; exact hx0))
        obtain ⟨y, hy⟩ : ∃ y, O[x0]'(by rw [HLEN.out]; exact hx0) = y := ⟨_, rfl⟩
        rw [hy] at hmm e1
        have hix := fun wx => run_indexS (P := Tryz.prog) wx 34 50 iA 4 Tryz.underlying34 hiA hsA ao lo co x0 hx0 (HRO.out.some_ (by omega))
        rw [hpe] at hix
        have hmay := H17.out.hT.may y hmm.1
        unfold mayA at hmay
        obtain ⟨u, hu⟩ : ∃ u : Nat, y.t = (u : Int) := ⟨y.t.toNat, by omega⟩
        have hun : u < n := by omega
        obtain ⟨r, u1, u2, _, _, _, u6, _⟩ := un_row H17.out.hT H17.out.hL H17.out.hD H17.out.hin (n + 1) y hmm.1 (by have := (H17.out.hD y hmm.1).1; omega)
        have hl2 := unL_len H17.out.hT H17.out.hL H17.out.hD h20 H17.out.hin u1
        rw [hmm.2, hu] at u1
        rw [hu] at e1
        have HUN := Lib.hid u1
        clear hpe e0 hmm hy hmay hu u1 u2 u6
        go_wp2_with fail
        refine (uarc_any (HLO.out.1.later HS2.out.mod) (by omega) H17.out.hT H17.out.hL H17.out.hD h20 H17.out.hin (v : Int) (u : Int) ⟨(i64_wf _).2 (by omega), (i64_wf _).2 (by omega)⟩).mono ?_
        clear hix e1
        rintro e w3 (⟨r', ax, cx, hu', hl3, hl4, rfl, ho, hm3⟩ | ⟨hu', _⟩)
        · have hre : r' = r := by have h1 := HUN.out; rw [hu'] at h1; exact Option.some.inj h1
          subst hre
          have HS3 := Lib.hid (HS2.out.later hm3)
          have hrx := (Rd.ofOwn ho).drop (n := 1) (by omega)
          have HRR := Lib.hid hrx
          clear ho hm3 hu' hrx hl3 hl4
          have z2 : decide ((r'.length : Int) < 2) = false := by simp; omega
          have z2n : decide (r'.length < 2) = false := by simp; omega
          obtain ⟨nw, hnw⟩ : ∃ y, wts.length = y := ⟨_, rfl⟩
          obtain ⟨ns, hns⟩ : ∃ y, sts.length = y := ⟨_, rfl⟩
          have hwl := HS3.out.wl
          have hnsl : ns ≤ 13 := by obtain ⟨m, g1, g2, _⟩ := HS3.out.len; omega
          have hj1 : j * 1048577 ≤ 12 * 1048577 := Nat.mul_le_mul_right _ (by omega)
          rw [hnw] at hwl ⊢
          rw [hns]
          have HNN := Lib.hid (And.intro hnw hns)
          clear hnw hns
          have hdp : ∀ wx, (Instr.slice 40 (.slice ax r'.length cx) (some (.int .i64 1)) none none).run Tryz.prog wx = .ok (.slice (dropA ax cx 1 1) (r'.length - 1) (cx - 1)) wx := fun wx => run_dropS wx 40 3 iI 1 Tryz.underlying40 hiI hsI ax r'.length cx 1 (by omega)
          go_upto_region 19 with (at_builtin; refine wpList_append_any rfl (.tmp 95) (.tmp 97) 40 rfl 3 iI (.int .i64 0) 1 8 Tryz.underlying40 hiI hzI hsI hbI rfl (by decide) (.slice aw nw cw) nw (wts.map (Value.int .i64)) rfl (by rw [← HNN.out.1]; exact Own.base HS3.out.ow (Nat.zero_le _)) _ (r'.length - 1) ((r'.map (Value.int .i64)).drop (1 * 1)) rfl HRR.out (by intro u hu; obtain ⟨_, _, rfl⟩ := List.mem_map.1 (List.mem_of_mem_drop hu); rfl) (by unfold maxLen; omega) (by omega) ?_; intro v' w4 hap; obtain ⟨a4, c4, rfl⟩ := hap.form; have HAP := Lib.hid hap; clear hap)
          clear hdp
          have hlen : (wts ++ r'.drop 1).length = nw + (r'.length - 1) := by rw [List.length_append, List.length_drop, HNN.out.1]
          have hv0 : ∀ k, (Value.slice aw nw cw).ownBlock = some k → w1.heap.size ≤ k := fun k hk => by rw [← HNN.out.1] at hk; exact (HS3.out.ow.lt k hk).1
          have how := Own.rebase HAP.out.own (HAP.out.low HS3.out.mod.size hv0)
          rw [Nat.mul_one, ← List.map_drop, ← List.map_append] at how
          have hm4 := HAP.out.modOld HS3.out.mod hv0
          have hos : w4.ownsRow w1.heap.size 3 1 (.slice as_ ns cs) ns (sts.map (Value.int .i64)) := by rw [← HNN.out.2]; exact Own.keep HS3.out.os HAP.out.mod (fun k hk e => HS3.out.ne k hk (by rw [HNN.out.1]; exact e))
          have hne : ∀ k, (Value.slice as_ ns cs).ownBlock = some k → k < w3.heap.size ∧ (Value.slice a4 (nw + (r'.length - 1)) c4).ownBlock ≠ some k := fun k hk => by
            rw [← HNN.out.2] at hk
            have h1 := (HS3.out.os.lt k hk).2
            refine ⟨h1, fun e => ?_⟩
            rcases HAP.out.row k e with h | h
            · exact HS3.out.ne k hk (by rw [HNN.out.1]; exact h)
            · omega
          have HW := Lib.hid (And.intro how (And.intro hos (And.intro hm4 (And.intro hne hlen))))
          have hz43 := HAP.out.mod.size
          clear how hos hm4 hne hv0 HRR z2 z2n
          obtain ⟨n4, hn4⟩ : ∃ y, nw + (r'.length - 1) = y := ⟨_, rfl⟩
          rw [hn4] at HW ⊢
          have hn4b : n4 ≤ nw + 1048577 := by omega
          clear hn4 hlen
          go_upto_region 20 with (at_builtin; refine wpList_append_any rfl (.tmp 99) (.tmp 101) 40 rfl 3 iI (.int .i64 0) 1 8 Tryz.underlying40 hiI hzI hsI hbI rfl (by decide) (.slice as_ ns cs) ns (sts.map (Value.int .i64)) rfl (Own.base (Own.keep HW.out.2.1 (Mod.alloc (fun _ => False) w4 _) (fun _ _ e => e)) (Nat.zero_le _)) (.slice (some ⟨w4.heap.size, 0, none⟩) 1 1) 1 [.int .i64 (u : Int)] rfl (by exact Rd.litN 3 1 [.int .i64 (u : Int)] (0, 0) _ 1 rfl rfl (by decide)) (by simp [Value.oneCell']) (by unfold maxLen; omega) (by omega) ?_; intro v' w5 hap; obtain ⟨a5, c5, rfl⟩ := hap.form; have HAP5 := Lib.hid hap; clear hap)
          have hma : Mod (fun _ => False) w1 (w4.alloc (.cells #[.int .i64 (u : Int)] 3)) := HW.out.2.2.1.of2 (Mod.alloc _ _ _)
          have hv0 : ∀ k, (Value.slice as_ ns cs).ownBlock = some k → w1.heap.size ≤ k := fun k hk => (HW.out.2.1.lt k hk).1
          have hos := Own.rebase HAP5.out.own (HAP5.out.low hma.size hv0)
          rw [show sts.map (Value.int .i64) ++ [Value.int .i64 (u : Int)] = (sts ++ [(u : Int)]).map (Value.int .i64) by rw [List.map_append]; rfl] at hos
          have hm5 := HAP5.out.modOld hma hv0
          have how := Own.keep (Own.keep HW.out.1 (Mod.alloc (fun _ => False) w4 (.cells #[.int .i64 (u : Int)] 3)) (fun _ _ e => e)) HAP5.out.mod (fun k hk e => (HW.out.2.2.2.1 k e).2 hk)
          have hl5 : (sts ++ [(u : Int)]).length = ns + 1 := by rw [List.length_append, HNN.out.2]; rfl
          have hl4 : (wts ++ r'.drop 1).length = n4 := HW.out.2.2.2.2
          have hnew : URS n T w1 (j + 1) u (sts ++ [(u : Int)]) (wts ++ r'.drop 1) a5 a4 c5 c4 w5 := by
            refine ⟨hun, ?_, by rw [hl4]; omega, fun x hx => ?_, by rw [hl5]; exact hos, by rw [hl4]; exact how, fun k hk e => ?_, hm5⟩
            · obtain ⟨m, g1, g2, g3, g4⟩ := HS3.out.len
              exact ⟨m + 1, by rw [hl5, ← HNN.out.2, g1], by omega, by simp [List.getD, g1], rowAt_more g1 g3 g4 HUN.out⟩
            · rcases List.mem_append.1 hx with h | h
              · exact HS3.out.ins x h
              · rw [List.mem_singleton] at h; omega
            · rw [hl5] at hk
              rw [hl4] at e
              rcases HAP5.out.row k hk with h | h
              · exact (HW.out.2.2.2.1 k h).2 e
              · have h1 := (HW.out.1.lt k e).2
                have h2 := heap_size_alloc w4 (.cells #[.int .i64 (u : Int)] 3)
                omega
          have HNEW := Lib.hid (And.intro hnew (And.intro hl5 hl4))
          clear hma hv0 hos hm5 how hl5 hl4 hnew
          go_wp2_with fail
          go_roundw
          case rel => exact ⟨j + 1, u, sts ++ [(u : Int)], wts ++ r'.drop 1, a5, a4, c5, c4, hlt, rfl, rfl, by rw [HNEW.out.2.1], by rw [HNEW.out.2.2], HNEW.out.1⟩
          case measure => simp [intOf]; omega
        · have h1 := HUN.out
          rw [hu'] at h1
          cases h1
    case neg =>
      have z0 : decide ((j : Int) < (sn : Int)) = false := by simp; omega
      go_wp2_with fail
      refine (HROW.out _ p F (HLO.out.1.later HS.out.mod) as_ cs sts (by obtain ⟨m, g1, g2, _⟩ := HS.out.len; omega) HS.out.ins (Rd.ofOwn HS.out.os)).mono ?_
      rintro e w8 (⟨o, ax, cx, hu, hol, rfl, ho, hm2⟩ | ⟨hu, rfl, hm2⟩)
      · have hoe : o = wts := by
          obtain ⟨m, g1, g2, g3, g4⟩ := HS.out.len
          unfold RowU at hu
          rw [if_neg (by omega), show sts.length - 1 = m by omega, g4] at hu
          exact (Option.some.inj hu).symm
        subst hoe
        have HU := Lib.hid (And.intro ho (And.intro hm2 (And.intro (show o.length ≤ 1000000000 by have := HS.out.wl; omega) (Rd.ofOwn HS.out.ow))))
        clear hu ho hm2 hol
        obtain ⟨no, hno⟩ : ∃ y, o.length = y := ⟨_, rfl⟩
        rw [hno] at HU ⊢
        have HNO := Lib.hid hno
        clear hno
        go_wp2_with fail
        refine (ints_any _ ax no cx o HNO.out HU.out.1 aw no cw o HNO.out (HU.out.2.2.2.keep HU.out.2.1 (fun _ _ e => e)) HU.out.2.2.1).mono ?_
        rintro e w9 ⟨rfl, kd, hkd⟩
        have HD := Lib.hid (show Mod (fun _ => False) w8 w9 by rw [hkd]; exact Mod.drewN _ _ _)
        have hdt : decide (o = o) = true := by simp
        rw [hdt]
        clear hkd
        go_wp2_with fail
        refine (awake17_any _).mono ?_
        rintro e w10 ⟨rfl, hm5⟩
        have H5 := Lib.hid hm5
        clear hm5
        go_wp2_with fail
        go_ret
        exact ⟨rfl, (((HLO.out.2.of2 HS.out.mod).of2 HU.out.2.1).of2 HD.out).of2 H5.out⟩
      · obtain ⟨m, g1, g2, g3, g4⟩ := HS.out.len
        unfold RowU at hu
        rw [if_neg (by omega), show sts.length - 1 = m by omega, g4] at hu
        cases hu

theorem urows_law (w : World) (nv : Int) (_ : (Lit.int .i64 nv).wf = true) (a : Option Addr) (ln c : Nat) (T : List T3) (ok : (encSlice enc3).ok w (.slice a ln c, T)) (fv : Int) (_ : (Lit.int .i64 fv).wf = true) (sa : Option Addr) (sn sc : Nat) (st : List Int) (ok2 : (encSlice (encInt .i64)).ok w (.slice sa sn sc, st)) :
    Calls Tryz.prog 8 #[.int .i64 nv, .slice a ln c, .int .i64 fv, .slice sa sn sc] w fun e w' => e = .returned (.bool true) ∧ Below w.heap.size w w' := by
  obtain ⟨hT, hr⟩ := ok_t3 ok
  obtain ⟨hst, hrs, hwf⟩ := ok_il17 ok2
  suffices h : Calls Tryz.prog 8 #[.int .i64 nv, .slice a ln c, .int .i64 fv, .slice sa sn sc] w fun e w' => e = .returned (.bool true) ∧ Mod (fun _ => False) w w' from
    h.mono fun e w' h => ⟨h.1, h.2.below (Nat.le_refl _) (fun _ e => e.elim)⟩
  by_cases hno : ¬ (1 ≤ nv ∧ nv ≤ 20 ∧ ln ≤ 80 ∧ sn ≤ 12)
  case pos =>
    clear hr hT ok ok2 hst hrs hwf
    have hend : ∀ (b0 b1 b2 b3 : Bool), decide (nv < 1) = b0 → decide (20 < nv) = b1 → decide (80 < (ln : Int)) = b2 → decide (12 < (sn : Int)) = b3 → (b0 || b1 || b2 || b3) = true →
        Calls Tryz.prog 8 #[.int .i64 nv, .slice a ln c, .int .i64 fv, .slice sa sn sc] w fun e w' => e = .returned (.bool true) ∧ Mod (fun _ => False) w w' := by
      intro b0 b1 b2 b3 hc0 hc1 hc2 hc3 hbb
      clear hno
      cases b0
      · skip
        cases b1
        · skip
          cases b2
          · skip
            cases b3
            · cases hbb
            · clear hbb 
              go_enter Tryz.func8, Tryz.ntmps8
              go_wp2_with fail
              refine (awake17_any _).mono ?_
              rintro e w9 ⟨rfl, hm9⟩
              go_wp2_with fail
              go_ret
              exact ⟨rfl, hm9⟩
          · clear hbb hc3
            go_enter Tryz.func8, Tryz.ntmps8
            go_wp2_with fail
            refine (awake17_any _).mono ?_
            rintro e w9 ⟨rfl, hm9⟩
            go_wp2_with fail
            go_ret
            exact ⟨rfl, hm9⟩
        · clear hbb hc2 hc3
          go_enter Tryz.func8, Tryz.ntmps8
          go_wp2_with fail
          refine (awake17_any _).mono ?_
          rintro e w9 ⟨rfl, hm9⟩
          go_wp2_with fail
          go_ret
          exact ⟨rfl, hm9⟩
      · clear hbb hc1 hc2 hc3
        go_enter Tryz.func8, Tryz.ntmps8
        go_wp2_with fail
        refine (awake17_any _).mono ?_
        rintro e w9 ⟨rfl, hm9⟩
        go_wp2_with fail
        go_ret
        exact ⟨rfl, hm9⟩
    refine hend _ _ _ _ rfl rfl rfl rfl ?_
    simp only [Bool.or_eq_true, decide_eq_true_eq]
    omega
  case neg =>
    have hyes := Decidable.not_not.1 hno
    obtain ⟨n, rfl⟩ := Int.eq_ofNat_of_zero_le (show 0 ≤ nv by omega)
    exact urows_all w n (by omega) (by omega) a ln c T hT hr (by omega) fv sa sn sc st hst hrs (by omega)

end Go.Proofs.YtjjedebjbgpimaaGreat
