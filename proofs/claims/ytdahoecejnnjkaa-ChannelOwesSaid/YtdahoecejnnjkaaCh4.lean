/- channel's pay, by contract. -/
import Derived.Test.YtdahoecejnnjkaaCh3
import Derived.Deep.DeepCutAuto
import Derived.StillTailTactics
namespace Go.Proofs.Ytdahoecejnnjkaa
open Go.RowKit Mile Go.Maps
set_option maxRecDepth 100000
set_option maxHeartbeats 8000000 in
theorem chpay_any {w : World} {p sp tp : Nat} {tb : Option Nat} {a : Option Addr} {c : Nat} {us : UdL} {kp kr : Nat} {ao : Option Addr} {co : Nat} {ou : UdL} {W B M R : Nat} {conn : Int} {x : ChS} (h : CHm w p sp tp tb a c us kp kr ao co ou W B M R conn x) (hF : x.F ≤ 1000000000) (hos : x.os.length ≤ 1000) (hL : x.L.length ≤ 100000) (hbd : ∀ b ∈ x.os, b.length ≤ 1000000) (now : Int) (hnow : -1000000000000000000 ≤ now ∧ now ≤ 1000000000000000000) :
    Calls Try.prog 36 #[.pointer (some ⟨p, 0, none⟩), .int .i64 now] w fun e w' => PayP p sp tp tb a kp kr ao W B M R conn x now w e w' := by
  obtain ⟨F0, ov, L0, bs0, N, f, os⟩ := x
  obtain ⟨iG, hiG, hzG, hsG, hbG⟩ := info_parts Ch.infoG
  obtain ⟨iB, hiB, hzB, hsB, hbB⟩ := info_parts Sd.infoB
  replace hF : F0 ≤ 1000000000 := hF
  replace hos : os.length ≤ 1000 := hos
  replace hL : L0.length ≤ 100000 := hL
  replace hbd : ∀ b ∈ os, b.length ≤ 1000000 := hbd
  obtain ⟨m, hm⟩ : ∃ y, payN W (⟨F0, ov, L0, bs0, N, f, os⟩ : ChS) = y := ⟨_, rfl⟩
  unfold PayP
  rw [hm]
  have hm1 : m = if ov then 0 else min (W - bs0.length) os.length := hm.symm
  have HM1 := Lib.hid hm1
  clear hm hm1
  have HW16 := h.sd.w16
  have hnW := h.sd.nW
  replace hnW : bs0.length ≤ W := hnW
  have HBD := Lib.hid hbd
  have HNOW := Lib.hid hnow
  have hq0 : ChQ p sp tp tb a kp kr ao W B M R conn (payS (⟨F0, ov, L0, bs0, N, f, os⟩ : ChS) B now 0) w w := by rw [payS_zero]; exact ⟨tb, a, c, us, ao, co, ou, h, fun k hk => .inl hk, Mod.refl _ _⟩
  have HQ0 := Lib.hid hq0
  clear h hbd hnow hq0
  go_enter Try.func36, Try.ntmps36
  go_wp2_with fail
  go_loopw [5] (fun gv wr => ∃ (j : Nat) (ag : Option Addr) (cg : Nat) (gl : UdL), gv = .slice ag j cg ∧ j ≤ m ∧ PayO w wr conn (N : Int) (F0 + bs0.length) (os.take j) ag j cg gl ∧ ChQ p sp tp tb a kp kr ao W B M R conn (payS (⟨F0, ov, L0, bs0, N, f, os⟩ : ChS) B now j) w wr) (fun gv _ => m - lenS gv)
  case atStart => exact ⟨0, none, 0, [], rfl, Nat.zero_le _, ⟨rfl, by simp, World.ownsRow_nil _ _ _ _, fun u hu => by simp at hu⟩, HQ0.out⟩
  case round =>
    obtain ⟨j, ag, cg, gl, rfl, hj, hpo, tb1, a1, c1, us1, ao1, co1, ou1, hc, hnew, hmd⟩ := hrel
    obtain ⟨wo, hwo⟩ : ∃ y : World, y = wr := ⟨_, rfl⟩
    subst hwo
    have hm1 := HM1.out
    have hjo : j ≤ os.length := by cases ov <;> simp at hm1 <;> omega
    have hjw : bs0.length + j ≤ W := by cases ov <;> simp at hm1 <;> omega
    obtain ⟨n1, hn1⟩ : ∃ y, (os.drop j).length = y := ⟨_, rfl⟩
    have hn1e : n1 = os.length - j := by rw [← hn1, List.length_drop]
    have c3 := hc.blk.cell 3 rfl
    have c0 := hc.blk.cell 0 rfl
    replace c3 : wo.cell? ⟨p, 3, none⟩ = some (.slice ao1 n1 co1) := by rw [← hn1]; exact c3
    obtain ⟨nn, hnn⟩ : ∃ y, (bs0 ++ os.take j).length = y := ⟨_, rfl⟩
    have hnne : nn = bs0.length + j := by rw [← hnn, List.length_append, List.length_take, Nat.min_eq_left hjo]
    have hrm := sdroom_any hc.sd
    obtain ⟨rm, hrme⟩ : ∃ y : Int, (if ov then 0 else ((W - nn : Nat) : Int)) = y := ⟨_, rfl⟩
    replace hrm : Calls Try.prog 23 #[.pointer (some ⟨sp, 0, none⟩)] wo fun e w' => e = .returned (.int .i64 rm) ∧ Mod (fun _ => False) wo w' := by rw [← hrme, ← hnn]; exact hrm
    have HRM := Lib.hid hrm
    have HPO := Lib.hid hpo
    have HC := Lib.hid hc
    have HNEW := Lib.hid hnew
    have HMD := Lib.hid hmd
    have HN1 := Lib.hid hn1
    have HNN := Lib.hid hnn
    clear hrm hpo hc hnew hmd hn1 hnn
    by_cases hgo : j < m
    case neg =>
      obtain rfl : j = m := by omega
      by_cases hn0 : n1 = 0
      · have z0 : decide (0 < (n1 : Int)) = false := by simp; omega
        have z1 : decide (0 < n1) = false := by simp; omega
        clear hn1e hnne hrme hm1
        go_wp2_with fail
        go_ret
        exact ⟨ag, cg, gl, rfl, HPO.out, tb1, a1, c1, us1, ao1, co1, ou1, HC.out, HNEW.out, HMD.out⟩
      · have z0 : decide (0 < (n1 : Int)) = true := by simp; omega
        have z1 : decide (0 < n1) = true := by simp; omega
        have hr0 : rm = 0 := by rw [← hrme]; cases ov <;> simp at hm1 ⊢; omega
        subst hr0
        clear hn1e hnne hm1
        go_wp2_with fail
        refine HRM.out.mono ?_
        rintro e w2 ⟨rfl, hm2⟩
        have HM2 := Lib.hid hm2
        clear hm2 c0 c3
        go_wp2_with fail
        go_ret
        exact ⟨ag, cg, gl, rfl, HPO.out.keep HM2.out (fun _ _ e => e) (fun _ _ e => e.elim), tb1, a1, c1, us1, ao1, co1, ou1, HC.out.later HM2.out, HNEW.out, HMD.out.trans HM2.out (fun _ _ e => e) (fun _ _ e => e.elim)⟩
    case pos =>
      have hov : ov = false := by cases ov; rfl; simp at hm1; omega
      subst hov
      replace hm1 : m = min (W - bs0.length) os.length := by simpa using hm1
      have hjl : j < os.length := by omega
      have hjn : nn < W := by omega
      have z0 : decide (0 < (n1 : Int)) = true := by simp; omega
      have z1 : decide (0 < n1) = true := by simp; omega
      have hrp : 0 < rm := by rw [← hrme]; simp; omega
      have z2 : decide (0 < rm) = true := by simpa using hrp
      obtain ⟨u0, ou2, hou⟩ : ∃ u0 ou2, ou1 = u0 :: ou2 := by
        have h1 := congrArg List.length HC.out.ho
        rw [List.length_map] at h1
        replace h1 : ou1.length = (os.drop j).length := h1
        cases ou1 with
        | nil => simp at h1; omega
        | cons u l => exact ⟨u, l, rfl⟩
      subst hou
      have hds : u0.1 :: ou2.map (·.1) = os.drop j := HC.out.ho
      have hds2 : os.drop j = os[j] :: os.drop (j + 1) := List.drop_eq_getElem_cons hjl
      have hb0 : u0.1 = os[j] := by rw [hds2] at hds; injection hds
      have hds3 : ou2.map (·.1) = os.drop (j + 1) := by rw [hds2] at hds; injection hds
      have hol : n1 = ou2.length + 1 := by have h1 := congrArg List.length hds; rw [HN1.out] at h1; simpa using h1.symm
      have HDS := Lib.hid hds
      have HB0 := Lib.hid hb0
      have HDS3 := Lib.hid hds3
      have HOL := Lib.hid hol
      have hbl : (u0.1).length ≤ 1000000 := by rw [hb0]; exact HBD.out _ (List.getElem_mem hjl)
      clear hds hds2 hb0 hds3 hol hrme hrp hm1 hn1e
      go_wp2_with fail
      refine HRM.out.mono ?_
      rintro e w2 ⟨rfl, hm2⟩
      have hc2 := HC.out.later hm2
      have hbt : BodyT w2 u0.1 u0.2 := hc2.bodies u0 List.mem_cons_self
      have hbr := hbt.rd
      obtain ⟨ub, ua, uc, hub⟩ : ∃ ub ua uc, u0 = (ub, .slice ua ub.length uc) := by
        obtain ⟨y1, y2, y3, g1, g2, _⟩ := hbt
        exact ⟨u0.1, y1, y3, by rw [g2, ← g1]⟩
      subst hub
      replace hbr : Rd w2 1 (.slice ua ub.length uc) ub.length (ub.map (Value.int .u8)) := hbr
      replace hbl : ub.length ≤ 1000000 := hbl
      have hro := Rd.ofOwn hc2.own
      replace hro : Rd w2 1 (.slice ao1 n1 co1) n1 (.slice ua ub.length uc :: ou2.map (·.2)) := by rw [← HN1.out]; exact hro
      obtain ⟨xb, xo, hpx, _⟩ := hro.place (j := 0) (by have := HOL.out; omega)
      have hel := hro.elem (j := 0) (u := .slice ua ub.length uc) rfl
      rw [hpx] at hel
      have hix := fun wx => run_indexS (P := Try.prog) wx 48 38 iB 1 Try.underlying48 hiB hsB ao1 n1 co1 0 (by have := HOL.out; omega) (hro.some_ (by have := HOL.out; omega))
      rw [hpx] at hix
      replace hix : ∀ wx, (Instr.indexAt 48 (.slice ao1 n1 co1) (.int .i64 0)).run Try.prog wx = .ok (.pointer (some ⟨xb, xo, none⟩)) wx := hix
      have d0 := hc2.blk.cell 0 rfl
      have d3 : w2.cell? ⟨p, 3, none⟩ = some (.slice ao1 n1 co1) := by rw [← HN1.out]; exact hc2.blk.cell 3 rfl
      have hsnd : ∀ W', Mod (fun _ => False) w2 W' → Calls Try.prog 49 #[.pointer (some ⟨sp, 0, none⟩), .int .i64 now, .slice ua ub.length uc] W' fun e w' => e = .returned (.tuple #[.int .i64 ((F0 + nn : Nat) : Int), .int .i64 0]) ∧ ∃ v, SdQ sp tp tb1 a1 W F0 (nn + 1) false B M R (putW (putsW L0 (F0 + bs0.length) (now + (B : Int)) j) ⟨((F0 + nn : Nat) : Int), now + (B : Int), 0⟩) (us1 ++ [(ub, v)]) W' w' ∧ ∀ k, v.ownBlock = some k → W'.heap.size ≤ k := fun W' m => by
        have hs := (hc2.later m).sd
        have hput := putsW_len L0 (F0 + bs0.length) (now + (B : Int)) j
        rw [← HNN.out]
        exact sdsend_any hs (by show (bs0 ++ os.take j).length < W; rw [HNN.out]; exact hjn) (by show F0 ≤ _; omega) (by show (putsW L0 (F0 + bs0.length) (now + (B : Int)) j).length ≤ _; omega) now (by have := HNOW.out; omega) ub _ (hbr.keep m (fun _ _ e => e)) (by omega)
      have HSND := Lib.hid hsnd
      have HM2 := Lib.hid hm2
      have HC2 := Lib.hid hc2
      have HBT := Lib.hid hbt
      have HNNE := Lib.hid hnne
      clear hsnd hm2 hc2 hbt hro hbr c0 c3 HRM hpx hnne
      go_upto_region 3 with fail
      go_cut [6, 7] from 8 to 50 (fun sv _ wx => sv = .int .i64 ((F0 : Int) + (nn : Int)) ∧ ∃ v3, SdQ sp tp tb1 a1 W F0 (nn + 1) false B M R (putW (putsW L0 (F0 + bs0.length) (now + (B : Int)) j) ⟨((F0 + nn : Nat) : Int), now + (B : Int), 0⟩) (us1 ++ [(ub, v3)]) (World.drew w2) wx ∧ ∀ k, v3.ownBlock = some k → (World.drew w2).heap.size ≤ k)
      case first =>
        go_region_law (go_simp; go_at_call 49; refine (HSND.out _ (Mod.drew _ _)).mono ?_; rintro e w3 ⟨rfl, v3, hq3, hv3⟩)
        all_goals
          go_wp2_with fail
          go_meet
          exact ⟨by first | rfl | simp, v3, hq3, hv3⟩
      case rest =>
        obtain ⟨rfl, v3, hq3, hv3⟩ := hcut
        obtain ⟨w3, hw3⟩ : ∃ y : World, y = wc := ⟨_, rfl⟩
        subst hw3
        have hc2d := HC2.out.later (Mod.drew (fun _ => False) w2)
        obtain ⟨tb3, a3, c3, hc3, hn3, hm3⟩ := hc2d.sent hq3
        have hpo2 := (HPO.out.keep HM2.out (fun _ _ e => e) (fun _ _ e => e.elim)).keep (Mod.drew (fun _ => False) w2) (fun _ _ e => e) (fun _ _ e => e.elim)
        have hpo3 := hpo2.keep hm3 (fun k hk e => hc2d.gram (hpo2.ty hk) (.inr (.inl e))) (fun k _ e => hc2d.sd.noT k e)
        have hst1 : (us1 ++ [(ub, v3)]).map (·.1) = bs0 ++ os.take (j + 1) := by
          have h1 : us1.map (·.1) = bs0 ++ os.take j := HC2.out.hb
          have h2 : ub = os[j] := HB0.out
          rw [List.map_append, h1, List.take_succ_eq_append_getElem hjl, List.append_assoc, h2]
          rfl
        have hb3 : Blk w3 p 63 [.pointer (some ⟨sp, 0, none⟩), .pointer (some ⟨kp, 0, none⟩), .int .i64 conn, .slice ao1 n1 co1] := by rw [← HN1.out]; exact hc3.blk
        have y3 := hb3.cell 3 rfl
        have hol := HOL.out
        have hn1b : n1 ≤ 1000 := by rw [← HN1.out, List.length_drop]; omega
        have how : w3.ownsRow 0 38 1 (.slice ao1 n1 co1) n1 (.slice ua ub.length uc :: ou2.map (·.2)) := by rw [← HN1.out]; exact hc3.own
        have hdel := sddel_any w3 ao1 n1 co1 1 (.slice ua ub.length uc :: ou2.map (·.2)) (by intro u hu; rcases List.mem_cons.1 hu with rfl | hu; rfl; (obtain ⟨z, hz, rfl⟩ := List.mem_map.1 hu; obtain ⟨_, _, _, g1, _⟩ := hc3.bodies z (List.mem_cons_of_mem _ hz); rw [g1]; rfl)) how (by omega) (by omega) (by omega)
        rw [show n1 - 1 = ou2.length by omega] at hdel
        have HDEL : Hid (Calls Try.prog 50 #[.slice ao1 n1 co1, .int .i64 0, .int .i64 1] w3 _) := Lib.hid hdel
        have HC3 := Lib.hid hc3
        have HP3 := Lib.hid hpo3
        have HN3 := Lib.hid hn3
        have HM3 := Lib.hid hm3
        have HB3 := Lib.hid hb3
        have HV3 := Lib.hid hv3
        have HST1 := Lib.hid hst1
        have HOW := Lib.hid how
        clear hdel hc3 hpo2 hpo3 hn3 hm3 hb3 hst1 how hol hc2d hq3 hv3 hel hix d0 d3 hn1b
        go_wp2_with fail
        refine HDEL.out.mono ?_
        rintro e w4 ⟨rfl, ho4, hm4⟩
        have hG4 : ∀ k, (Value.slice ao1 n1 co1).ownBlock = some k → (Value.slice ao1 0 0).ownBlock = some k := fun k hk => by rw [← hk]; exact own_slice ao1 0 0 n1 co1
        have hT4 : ∀ k, k < w3.heap.size → (Value.slice ao1 n1 co1).ownBlock = some k → NoT w3 k := fun k _ hk => (HC3.out.tyo (hG4 k hk)).noT (by decide)
        have hb4 := HB3.out.keep hm4 (fun e => (TyB.blk HB3.out).ne (HC3.out.tyo (hG4 p e)) (by decide) rfl)
        have y3 := hb4.cell 3 rfl
        have f3 := hb4.free 3
        have l4 := hb4.lt
        have hpo4 := HP3.out.keep hm4 (fun k hk e => HC3.out.gram (HP3.out.ty hk) (.inr (.inr (.inr (.inr (hG4 k e)))))) hT4
        have how5 := HC3.out.owes (ao' := ao1) (co' := co1) (ou' := ou2) ho4 (fun u hu => (HC3.out.bodies u (List.mem_cons_of_mem _ hu)).keep hm4 hT4) hm4 hG4 (fun k hk => .inl hk)
        obtain ⟨hc5, hm5⟩ := how5
        have hnne := HNNE.out
        have hput : putW (putsW L0 (F0 + bs0.length) (now + (B : Int)) j) ⟨((F0 + nn : Nat) : Int), now + (B : Int), 0⟩ = putsW L0 (F0 + bs0.length) (now + (B : Int)) (j + 1) := by
          show _ = putW _ ⟨((F0 + bs0.length + j : Nat) : Int), _, _⟩
          rw [show F0 + bs0.length + j = F0 + nn by omega]
        have hst : (⟨F0, false, putW (putsW L0 (F0 + bs0.length) (now + (B : Int)) j) ⟨((F0 + nn : Nat) : Int), now + (B : Int), 0⟩, (us1 ++ [(ub, v3)]).map (·.1), N, f, ou2.map (·.1)⟩ : ChS) = payS (⟨F0, false, L0, bs0, N, f, os⟩ : ChS) B now (j + 1) := by rw [hput, HST1.out, HDS3.out]; rfl
        replace hc5 : CHm (w4.setCell ⟨p, 3, none⟩ (.slice ao1 ou2.length co1)) p sp tp tb3 a3 c3 (us1 ++ [(ub, v3)]) kp kr ao1 co1 ou2 W B M R conn (payS (⟨F0, false, L0, bs0, N, f, os⟩ : ChS) B now (j + 1)) := by rw [← hst]; exact hc5
        have hset5 : Mod (fun k => k = p) w4 (w4.setCell ⟨p, 3, none⟩ (.slice ao1 ou2.length co1)) := Mod.setCell _ _ _ rfl
        have hpo5 := hpo4.keep hset5 (fun k hk e => (hpo4.ty hk).ne (TyB.blk hb4) (by decide) e) (fun k _ e => by rw [e]; exact NoT.blk hb4 (by decide))
        have HC5 := Lib.hid hc5
        have HM5 := Lib.hid hm5
        have HP5 := Lib.hid hpo5
        clear hc5 hm5 hpo5 hpo4 hset5 ho4 hm4 hT4 hst hput hb4 HDEL hnne
        go_upto_region 5 with fail
        obtain ⟨w5, hw5⟩ : ∃ y, w4.setCell ⟨p, 3, none⟩ (.slice ao1 ou2.length co1) = y := ⟨_, rfl⟩
        rw [hw5] at HC5 HM5 HP5 ⊢
        clear hw5 y3 f3 l4
        have hnne := HNNE.out
        have hkl : nn < (payS (⟨F0, false, L0, bs0, N, f, os⟩ : ChS) B now (j + 1)).bs.length := by
          show nn < (bs0 ++ os.take (j + 1)).length
          rw [List.length_append, List.length_take]; omega
        have hbk0 : ∀ (h : nn < (bs0 ++ os.take (j + 1)).length), (bs0 ++ os.take (j + 1))[nn]'h = ub := fun h => by
          have h2 : ub = os[j] := HB0.out
          subst hnne
          rw [List.getElem_append_right (by omega), List.getElem_take, h2]
          simp
        have hbk : (payS (⟨F0, false, L0, bs0, N, f, os⟩ : ChS) B now (j + 1)).bs[nn]'hkl = ub := hbk0 hkl
        have hdt := chdata_any HC5.out (by show F0 ≤ _; omega) nn hkl (by rw [hbk]; omega) ((F0 + nn : Nat) : Int) (by show _ = (F0 : Int) + _; omega)
        rw [hbk] at hdt
        unfold dgV at hdt
        have HDT := Lib.hid hdt
        clear hdt hbk hbk0 hkl hnne
        go_wp2_with fail
        refine HDT.out.mono ?_
        rintro e w6 ⟨v, rfl, hf6, ⟨va, vc, rfl⟩, hm6⟩
        have hc6 := HC5.out.later hm6
        have hpo6 := HP5.out.keep hm6 (fun _ _ e => e) (fun _ _ e => e.elim)
        have hoa := fun o => Own.base (Own.keep hpo6.own (Mod.alloc (fun _ => False) w6 o) (fun _ _ e => e)) (Nat.zero_le _)
        have hj1 : j + 1 ≤ maxLen := by unfold maxLen; omega
        have HC6 := Lib.hid hc6
        have HP6 := Lib.hid hpo6
        have HF6 := Lib.hid hf6
        have HM6 := Lib.hid hm6
        clear hc6 hpo6 hf6 hm6 HDT
        go_wp2_with (first | (at_builtin; refine wpList_append_any rfl (.tmp 45) (.tmp 49) 36 rfl 40 iG (.agg #[.int .i64 0, .int .i64 0, .int .i64 0, .int .i64 0, .int .i64 0, .slice none 0 0]) 6 64 Try.underlying36 hiG hzG hsG hbG rfl (by decide) _ j (dgs conn (N : Int) (F0 + bs0.length) (gl.map (·.2))) rfl (hoa _) _ 1 [.int .i64 conn, .int .i64 1, .int .i64 ((F0 + nn : Nat) : Int), .int .i64 (N : Int), .int .i64 0, .slice va ub.length vc] rfl (Rd.litN _ _ _ _ _ 1 rfl rfl (by decide)) (by intro u hu; simp at hu; rcases hu with rfl | rfl | rfl | rfl | rfl | rfl <;> rfl) hj1 (by omega) ?_; intro v7 w7 hap; obtain ⟨a7, c7, rfl⟩ := hap.form; have HAP := Lib.hid hap; clear hap hoa))
        have hal : Mod (fun _ => False) w6 (w6.alloc (.cells #[.int .i64 conn, .int .i64 1, .int .i64 ((F0 + nn : Nat) : Int), .int .i64 (N : Int), .int .i64 0, .slice va ub.length vc] 40)) := Mod.alloc _ _ _
        have hcA := HC6.out.later hal
        have hpA := HP6.out.keep hal (fun _ _ e => e) (fun _ _ e => e.elim)
        have hgr : ∀ k, (Value.slice ag j cg).ownBlock = some k → TyB (w6.alloc (.cells #[.int .i64 conn, .int .i64 1, .int .i64 ((F0 + nn : Nat) : Int), .int .i64 (N : Int), .int .i64 0, .slice va ub.length vc] 40)) k 40 := fun k hk => hpA.ty hk
        have hTg : ∀ k, k < (w6.alloc (.cells #[.int .i64 conn, .int .i64 1, .int .i64 ((F0 + nn : Nat) : Int), .int .i64 (N : Int), .int .i64 0, .slice va ub.length vc] 40)).heap.size → (Value.slice ag j cg).ownBlock = some k → NoT (w6.alloc (.cells #[.int .i64 conn, .int .i64 1, .int .i64 ((F0 + nn : Nat) : Int), .int .i64 (N : Int), .int .i64 0, .slice va ub.length vc] 40)) k := fun k _ hk => (hgr k hk).noT (by decide)
        have hc7 := hcA.keep HAP.out.mod (fun k hk e => hcA.gram (hgr k e) hk) hTg
        have hsz5 : w.heap.size ≤ w5.heap.size := by have h1 := HMD.out.size; have h2 := HM2.out.size; have h3 := HM3.out.size; have h4 := HM5.out.size; simp at h3; omega
        have hszA : w.heap.size ≤ (w6.alloc (.cells #[.int .i64 conn, .int .i64 1, .int .i64 ((F0 + nn : Nat) : Int), .int .i64 (N : Int), .int .i64 0, .slice va ub.length vc] 40)).heap.size := by have h1 := HM6.out.size; have h2 := hal.size; omega
        have hlo7 := HAP.out.low hszA (fun k hk => (HPO.out.own.lt k hk).1)
        have ho7 := Own.rebase HAP.out.own hlo7
        have hbv : BodyT w7 ub (.slice va ub.length vc) := by
          have h1 : BodyT w6 ub (.slice va ub.length vc) := ⟨va, _, vc, rfl, rfl, Own.base HF6.out (Nat.zero_le _)⟩
          exact (h1.keep hal (fun _ _ e => e.elim)).keep HAP.out.mod hTg
        have hbn : ∀ k, (Value.slice va ub.length vc).ownBlock = some k → w.heap.size ≤ k := fun k hk => by have := (World.ownsRow.lt HF6.out k hk).1; omega
        have hnne := HNNE.out
        have hgl : gl.length = j := by have h1 := congrArg List.length HPO.out.eq; rw [List.length_map, List.length_take, Nat.min_eq_left (by omega)] at h1; exact h1
        have hpo7 : PayO w w7 conn (N : Int) (F0 + bs0.length) (os.take (j + 1)) a7 (j + 1) c7 (gl ++ [(ub, .slice va ub.length vc)]) := by
          refine ⟨?_, by rw [List.length_take, Nat.min_eq_left (by omega)], ?_, fun u hu => ?_⟩
          · have h2 : ub = os[j] := HB0.out
            rw [List.map_append, HPO.out.eq, List.take_succ_eq_append_getElem hjl, ← h2]
            rfl
          · rw [List.map_append]
            show World.ownsRow _ _ _ _ _ _ (dgs conn (N : Int) (F0 + bs0.length) (gl.map (·.2) ++ [.slice va ub.length vc]))
            rw [dgs_snoc, List.length_map, hgl, show F0 + bs0.length + j = F0 + nn by omega]
            exact ho7
          · rcases List.mem_append.1 hu with hu | hu
            · exact ⟨((hpA.bodies u hu).1).keep HAP.out.mod hTg, (hpA.bodies u hu).2⟩
            · rw [List.mem_singleton] at hu
              rw [hu]
              exact ⟨hbv, hbn⟩
        have hn35 : ∀ k, chF p sp tp tb3 a3 kp kr ao1 k → chF p sp tp tb1 a1 kp kr ao1 k ∨ w2.heap.size ≤ k := fun k hk => by
          rcases hk with e | e | e | e | e
          · exact .inl (.inl e)
          · rcases HN3.out k e with g | g
            · exact .inl (.inr (.inl g))
            · exact .inr (by simpa using g)
          · exact .inl (.inr (.inr (.inl e)))
          · exact .inl (.inr (.inr (.inr (.inl e))))
          · exact .inl (.inr (.inr (.inr (.inr e))))
        have hsz2 : w.heap.size ≤ w2.heap.size := by have h1 := HMD.out.size; have h2 := HM2.out.size; omega
        have hnew7 : ∀ k, chF p sp tp tb3 a3 kp kr ao1 k → chF p sp tp tb a kp kr ao k ∨ w.heap.size ≤ k := fun k hk => by
          rcases hn35 k hk with g | g
          · exact HNEW.out k g
          · exact .inr (by omega)
        have hold : ∀ k, k < w.heap.size → chF p sp tp tb1 a1 kp kr ao1 k → chF p sp tp tb a kp kr ao k := fun k hk g => (HNEW.out k g).elim id (fun e => by omega)
        have hmd2 : Mod (chF p sp tp tb a kp kr ao) w w2 := HMD.out.trans HM2.out (fun _ _ e => e) (fun _ _ e => e.elim)
        have hmd2d : Mod (chF p sp tp tb a kp kr ao) w (World.drew w2) := hmd2.trans (Mod.drew (fun _ => False) w2) (fun _ _ e => e) (fun _ _ e => e.elim)
        have hmd3 : Mod (chF p sp tp tb a kp kr ao) w w3 := hmd2d.trans HM3.out (fun _ _ e => e) (fun k hk e => hold k hk (.inr (.inl e)))
        have hmd5 : Mod (chF p sp tp tb a kp kr ao) w w5 := hmd3.trans HM5.out (fun _ _ e => e) (fun k hk e => e.elim (fun e => hold k hk (.inl e)) (fun e => hold k hk (.inr (.inr (.inr (.inr e))))))
        have hmd6 : Mod (chF p sp tp tb a kp kr ao) w w6 := hmd5.trans HM6.out (fun _ _ e => e) (fun _ _ e => e.elim)
        have hmdA := hmd6.trans hal (H := chF p sp tp tb a kp kr ao) (fun _ _ e => e) (fun _ _ e => e.elim)
        have hmd7 : Mod (chF p sp tp tb a kp kr ao) w w7 := hmdA.trans HAP.out.mod (fun _ _ e => e) (fun k hk e => by have := (HPO.out.own.lt k e).1; omega)
        have HP7 := Lib.hid hpo7
        have HC7 := Lib.hid hc7
        have HNEW7 := Lib.hid hnew7
        have HMD7 := Lib.hid hmd7
        clear hal hcA hpA hgr hTg hc7 hsz5 hszA hlo7 ho7 hbv hbn hgl hpo7 hn35 hsz2 hnew7 hold hmd2 hmd2d hmd3 hmd5 hmd6 hmdA hmd7 hnne
        go_roundw
        case rel => exact ⟨j + 1, a7, c7, _, rfl, by omega, HP7.out, tb3, a3, c3, _, ao1, co1, ou2, HC7.out, HNEW7.out, HMD7.out⟩
        case measure => simp [lenS]; omega
end Go.Proofs.Ytdahoecejnnjkaa
