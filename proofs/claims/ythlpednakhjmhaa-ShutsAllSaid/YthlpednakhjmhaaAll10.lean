/- ShutsAll walked. -/
import Derived.Test.YthlpednakhjmhaaAwake10
import Derived.Test.YthlpednakhjmhaaSame10
import Derived.Test.YthlpednakhjmhaaRegion2
import Derived.Deep.DeepCutAuto
import Derived.Deep.CutBlock
namespace Mile
open Go Go.RowKit
theorem hasB_append (n : Nat) (xs ys : List Int) : hasB n (xs ++ ys) = (hasB n xs && hasB n ys) := by unfold hasB; rw [List.all_append]
theorem hasB_mod7 (l : List Int) : hasB 7 (l.map (· % 7)) = true := by
  unfold hasB
  rw [List.all_eq_true]
  intro x hx
  obtain ⟨y, _, rfl⟩ := List.mem_map.1 hx
  exact decide_eq_true ⟨Int.emod_nonneg y (by omega), Int.emod_lt_of_pos y (by omega)⟩
theorem int_one (xs : List Int) : ∀ u ∈ xs.map (Value.int .i64), u.oneCell' = true := fun u hu => by obtain ⟨_, _, rfl⟩ := List.mem_map.1 hu; rfl
theorem turn_take (U : Int) (us ks : List Int) (i : Nat) (h : i < ks.length) : (turnL U us (ks.take (i + 1))).length = (turnL U us (ks.take i)).length + (turnL U (putU U us (ks.take i)) [ks[i]]).length := by
  rw [List.take_succ_eq_append_getElem h, turnL_snoc, List.length_append]
  rfl
theorem put_take (U : Int) (us ks : List Int) (i : Nat) (h : i < ks.length) : putU U us (ks.take (i + 1)) = putU U (putU U us (ks.take i)) [ks[i]] := by
  rw [List.take_succ_eq_append_getElem h, putU_snoc]; rfl
theorem own_lit1 (w : World) (T : TypeId) (g : Nat) (x : Value) (hg : g = w.heap.size) : (w.alloc (.cells #[x] T)).ownsRow 0 T 1 (.slice (some ⟨g, 0, none⟩) 1 1) 1 [x] := by
  subst hg; exact World.ownsRow_lit (base := 0) (e := T) (size := 1) w #[x] 1 (Nat.zero_le _) (by decide) (by simp)
end Mile
namespace Go.Proofs.Ythlpednakhjmhaa
open Go.RowKit Mile
set_option maxRecDepth 100000
theorem opens_il : Opens Try.prog 28 (encSlice (encInt .i64)) := opens_slice Try.underlying28 (by kernel_rfl) (opens_int Try.underlying3) (by decide)

set_option maxHeartbeats 64000000 in
theorem all10_all (w : World) (a : Option Addr) (m c : Nat) (l : List Int) (hn : l.length = m) (hr : Rd w 1 (.slice a m c) m (l.map (Value.int .i64))) (vu vo : Int) (vb : Bool) :
    Calls Try.prog 6 #[.slice a m c, .int .i64 vu, .int .i64 vo, .bool vb] w fun e w' => e = .returned (.bool true) ∧ Mod (fun _ => False) w w' := by
  obtain ⟨iI, hiI, hzI, hsI, hbI⟩ := info_parts infoI
  have HN := Lib.hid hn
  clear hn
  by_cases hm20 : m ≤ 20
  case neg =>
    have z0 : decide (20 < (m : Int)) = true := by simp; omega
    have HS : Hid (Ev (Mod (fun _ => False) w) w) := Lib.hid (Ev.mod w)
    go_enter Try.func6, Try.ntmps6
    go_wp2_with fail
    refine (awake10_any _).mono ?_
    rintro e wq1 ⟨rfl, hm⟩
    replace HS := Lib.hid (HS.out.step hm)
    clear hm
    go_wp2_with fail
    go_ret
    exact ⟨rfl, HS.out.now⟩
  by_cases hv0 : 1 ≤ vu
  case neg =>
    have z0 : decide (20 < (m : Int)) = false := by simp; omega
    have z1 : decide (vu < 1) = true := by simp; omega
    have HS : Hid (Ev (Mod (fun _ => False) w) w) := Lib.hid (Ev.mod w)
    go_enter Try.func6, Try.ntmps6
    go_wp2_with fail
    refine (awake10_any _).mono ?_
    rintro e wq2 ⟨rfl, hm⟩
    replace HS := Lib.hid (HS.out.step hm)
    clear hm
    go_wp2_with fail
    go_ret
    exact ⟨rfl, HS.out.now⟩
  by_cases hv1 : vu ≤ 1000
  case neg =>
    have z0 : decide (20 < (m : Int)) = false := by simp; omega
    have z1 : decide (vu < 1) = false := by simp; omega
    have z2 : decide (1000 < vu) = true := by simp; omega
    have HS : Hid (Ev (Mod (fun _ => False) w) w) := Lib.hid (Ev.mod w)
    go_enter Try.func6, Try.ntmps6
    go_wp2_with fail
    refine (awake10_any _).mono ?_
    rintro e wq3 ⟨rfl, hm⟩
    replace HS := Lib.hid (HS.out.step hm)
    clear hm
    go_wp2_with fail
    go_ret
    exact ⟨rfl, HS.out.now⟩
  have z0 : decide (20 < (m : Int)) = false := by simp; omega
  have z1 : decide (vu < 1) = false := by simp; omega
  have z2 : decide (1000 < vu) = false := by simp; omega
  go_enter Try.func6, Try.ntmps6
  go_wp2_with fail
  refine (snew_as 7 (by omega) w).mono ?_
  rintro e wq0 ⟨p, rfl, hpb, hso, hm0⟩
  go_wp2_with fail
  refine (snew_as 7 (by omega) wq0).mono ?_
  rintro e wa ⟨q, rfl, hqb, hsq, hm1⟩
  have hqp : ¬ q = p := by have := hso.blk.lt; omega
  have hpq : ¬ p = q := by omega
  have HPB := Lib.hid hpb
  have HQB : Hid (w.heap.size ≤ q) := Lib.hid (by have := hm0.size; omega)
  have HM0 := Lib.hid (hm0.of2 hm1)
  have hso := hso.keep hm1 (fun e => e)
  obtain ⟨us0, hus0⟩ : ∃ us, List.replicate 512 (0 : Int) = us := ⟨_, rfl⟩
  rw [hus0] at hso hsq
  have HA := Lib.hid hso
  have HB := Lib.hid hsq
  have hr0 := hr.keep HM0.out (fun _ _ e => e)
  have HRL := Lib.hid hr0
  clear hus0 hso hsq hm0 hm1 hpb hqb hr hr0
  obtain ⟨ks, hks⟩ : ∃ ks, l.map (· % 7) = ks := ⟨_, rfl⟩
  have HKH : Hid (hasB 7 ks = true) := Lib.hid (by rw [← hks]; exact hasB_mod7 l)
  have HKL : Hid (ks.length = m) := Lib.hid (by rw [← hks, List.length_map, HN.out])
  have HKA : Hid (∀ j (h : j < l.length), ∃ h2 : j < ks.length, ks[j] = l[j] % 7) := Lib.hid (fun j h => by subst hks; exact ⟨by simpa using h, by simp⟩)
  clear hks
  obtain ⟨B0, hB0⟩ : ∃ b, wa.heap.size = b := ⟨_, rfl⟩
  have HB0 := Lib.hid hB0
  clear hB0
  have hpB : p < B0 := by rw [← HB0.out]; exact HA.out.blk.lt
  have hqB : q < B0 := by rw [← HB0.out]; exact HB.out.blk.lt
  go_wp2_with fail
  clear z0 z1 z2
  go_loopw [11, 12] (fun v i wr => ∃ j : Nat, j ≤ m ∧ i = .int .i64 j ∧ World.ownsRow wr B0 3 1 v j ((ks.take j).map (Value.int .i64)) ∧ Mod (fun k => B0 ≤ k) wa wr) (fun _ i _ => m - (intOf i).toNat)
  case atStart => exact ⟨0, by omega, rfl, World.ownsRow_nil _ _ _ _, Mod.refl _ _⟩
  case round =>
    obtain ⟨j, hj, rfl, hown, hmr⟩ := hrel
    obtain ⟨wo, hwo⟩ : ∃ x : World, x = wr := ⟨_, rfl⟩
    subst hwo
    obtain ⟨av, cv, rfl⟩ := own_form hown
    have HO := Lib.hid hown
    have HM := Lib.hid hmr
    clear hown hmr
    by_cases hlt : j < m
    case pos =>
      have hjl : j < l.length := by rw [HN.out]; exact hlt
      have z0 : decide ((j : Int) < (m : Int)) = true := by simp; omega
      obtain ⟨hjk, hke⟩ := HKA.out j hjl
      obtain ⟨x, hx⟩ : ∃ x, l[j] = x := ⟨_, rfl⟩
      rw [hx] at hke
      have hrl := HRL.out.keepA (w' := wo) HM.out (fun k hk e => HRL.out.lt hk (by rw [HB0.out]; exact e))
      obtain ⟨eb, eo, hpl, e0⟩ := rd1 hrl j hjl
      rw [hx] at e0
      have hix := fun wx => run_indexS (P := Try.prog) wx 28 3 iI 1 Try.underlying28 hiI hsI a m c j hlt (hrl.some_ (by omega))
      rw [hpl] at hix
      clear hpl hrl hx
      go_wp2_with fail
      refine (round_any x 7 _ (by omega) (by omega)).mono ?_
      rintro e w' ⟨rfl, rfl⟩
      rw [← hke]
      obtain ⟨kx, hkx⟩ : ∃ x, ks[j] = x := ⟨_, rfl⟩
      rw [hkx]
      have HSZ : Hid (B0 ≤ wo.heap.size) := Lib.hid (by rw [← HB0.out]; exact HM.out.size)
      have HT : Hid (ks.take (j + 1) = ks.take j ++ [kx]) := Lib.hid (by rw [List.take_succ_eq_append_getElem hjk, hkx])
      clear hkx hke
      go_wp2_with (at_builtin; refine wpList_append_any rfl (.tmp 55) (.tmp 61) 28 rfl 3 iI (.int .i64 0) 1 8 Try.underlying28 hiI hzI hsI hbI rfl (by decide) _ j _ rfl (World.ownsRow.alloc (Own.base HO.out (Nat.zero_le _)) _) _ 1 [.int .i64 kx] rfl (Rd.one _ _ _) (by simp [Value.oneCell']) (by unfold maxLen; omega) (by omega) ?_; intro v4 w4 hap; obtain ⟨a4, c4, rfl⟩ := hap.form; have ho4 := hap.own; have lo4 := hap.low (B := B0) (by have := HSZ.out; simp; omega) (fun q hq => (HO.out.lt q hq).1); have HO4 := Lib.hid (Own.rebase ho4 lo4); have hmq : Mod (fun q => B0 ≤ q) wo w4 := (Mod.alloc (fun q => B0 ≤ q) wo _).trans (hap.mod.mono (fun q _ e => (HO.out.lt q e).1)) (fun _ _ e => e) (fun _ _ e => e); have HMQ := Lib.hid hmq; clear hap ho4 lo4 hmq)
      go_roundw
      case rel => exact ⟨j + 1, hlt, by go_num, by rw [HT.out, List.map_append]; exact HO4.out, HM.out.ofF HMQ.out⟩
      case measure => simp [intOf]; omega
    case neg =>
      obtain rfl : j = m := by omega
      have z0 : decide ((j : Int) < (j : Int)) = false := by simp
      go_wp2_with fail
      clear z0
      have hown := HO.out
      rw [show ks.take j = ks from List.take_of_length_le (by rw [HKL.out]; exact Nat.le_refl _)] at hown
      have hmo := HM.out
      have hm00 : Mod (fun _ => False) w wo := HM0.out.old hmo (fun i hi => by have h1 := HM0.out.size; have h2 := HB0.out; have h3 : B0 ≤ i := hi; omega)
      have ha := HA.out.keep hmo (by omega)
      have hb := HB.out.keep hmo (by omega)
      clear HA HB HM0
      have HM0 := Lib.hid hm00
      have HA := Lib.hid ha
      have HB := Lib.hid hb
      clear hm00 ha hb hmo HM HO HRL
      have HS : Hid (EvF (fun k => k = p ∨ k = q) (Mod (fun k => k = p ∨ k = q) wo) wo) := Lib.hid (EvF.mod _ _)
      have hbk : ∀ k, (Value.slice av j cv).ownBlock = some k → B0 ≤ k := fun k hk => (hown.lt k hk).1
      have HBK := Lib.hid hbk
      replace HS := Lib.hid ((EvF.rdA (Rd.ofOwn hown) (fun k hk e => absurd (hbk k hk) (by rcases e with e | e <;> omega))).and HS.out)
      clear hown hbk
      go_wp2_with fail
      refine (close_as p 7 us0 _ (HA.out.keep (Mod.alloc (fun _ => False) _ _) (fun e => e)) _ _ _ [1, 2, 3] (xr_lit HA.out.blk.lt 3 [1, 2, 3] 3 _ rfl rfl (by omega)) (by omega) (by decide) 3 (by omega) (by omega) _ rfl _ rfl (putU 3 us0 [1, 2, 3]) rfl).mono ?_
      rintro e wq4 ⟨xap, xcp, rfl, _, hsn, hmm⟩
      have hmt : Mod (fun k => k = p) wo wq4 := (Mod.mono (Mod.alloc (fun _ => False) _ _) (fun _ _ e => e.elim)).ofF hmm
      have HB1 := Lib.hid (HB.out.keep hmt hqp)
      clear HB
      have HB := HB1
      clear HB1
      clear HA
      have HA := Lib.hid hsn
      replace HS := Lib.hid (HS.out.step (Mod.mono hmt (fun _ _ e => Or.inl e)))
      clear hmm hmt hsn
      go_wp2_with fail
      refine (close_as q 7 us0 _ (HB.out.keep (Mod.alloc (fun _ => False) _ _) (fun e => e)) _ _ _ [1, 2, 3] (xr_lit HB.out.blk.lt 3 [1, 2, 3] 3 _ rfl rfl (by omega)) (by omega) (by decide) 3 (by omega) (by omega) _ rfl _ rfl (putU 3 us0 [1, 2, 3]) rfl).mono ?_
      rintro e wq5 ⟨xaq, xcq, rfl, _, hsn, hmm⟩
      have hmt : Mod (fun k => k = q) wq4 wq5 := (Mod.mono (Mod.alloc (fun _ => False) _ _) (fun _ _ e => e.elim)).ofF hmm
      have HA1 := Lib.hid (HA.out.keep hmt hpq)
      clear HA
      have HA := HA1
      clear HA1
      clear HB
      have HB := Lib.hid hsn
      replace HS := Lib.hid (HS.out.step (Mod.mono hmt (fun _ _ e => Or.inr e)))
      clear hmm hmt hsn
      obtain ⟨us1, hus1⟩ : ∃ x, putU 3 us0 [1, 2, 3] = x := ⟨_, rfl⟩
      rw [hus1] at HA HB
      clear hus1
      go_wp2_with fail
      have hlbrw0 := HA.out.blk.lt
      have hlqrw0 := HB.out.blk.lt
      refine (all_any p 7 us1 _ HA.out).mono ?_
      rintro e wq6 ⟨v, rfl, hoa, hmm⟩
      obtain ⟨wv, wc0, rfl⟩ := own_form hoa
      have hlo : ∀ k, (Value.slice wv (allK us1 7).length wc0).ownBlock = some k → (k = p ∨ k = q) → (allK us1 7).flatMap c2s = [] := fun k hk e => by have h1 := (hoa.lt k hk).1; rcases e with e | e <;> omega
      have hrd := Rd.ofOwn hoa
      clear hoa hlbrw0 hlqrw0
      have HA1 := Lib.hid (HA.out.keep hmm (fun e => e))
      clear HA
      have HA := HA1
      clear HA1
      have HB1 := Lib.hid (HB.out.keep hmm (fun e => e))
      clear HB
      have HB := HB1
      clear HB1
      replace HS := Lib.hid (HS.out.step (Mod.upF hmm))
      replace HS := Lib.hid ((EvF.rdA hrd hlo).and HS.out)
      clear hmm hrd hlo
      obtain ⟨L, hL⟩ : ∃ L, allK us1 7 = L := ⟨_, rfl⟩
      have hLn : L.length ≤ 7 := by rw [← hL]; exact allK_len us1 7
      rw [hL] at HS ⊢
      obtain ⟨n3, hn3⟩ : ∃ n, L.length = n := ⟨_, rfl⟩
      rw [hn3] at HS hLn ⊢
      have HN3 := Lib.hid hn3
      have HL := Lib.hid hL
      clear hL hn3
      replace HS := Lib.hid ((EvF.mod (fun k => k = p ∨ k = q) wq6).and HS.out)
      go_upto_region 14 with fail
      go_cut [76] (fun cv wx => cv = .bool (decide (vo < 0) || decide (6 < vo)) ∧ wq6 = wx)
      case first =>
        by_cases hlow : vo < 0
        case pos =>
          have z0 : decide (vo < 0) = true := by simpa using hlow
          go_wp2_with fail
          go_meet
          exact ⟨by rw [z0]; rfl, rfl⟩
        case neg =>
          have z0 : decide (vo < 0) = false := by simpa using hlow
          by_cases hhi : 6 < vo
          case pos =>
            have z1 : decide (6 < vo) = true := by simpa using hhi
            go_wp2_with fail
            go_meet
            exact ⟨by rw [z0, z1]; rfl, rfl⟩
          case neg =>
            have z1 : decide (6 < vo) = false := by simpa using hhi
            go_wp2_with fail
            go_meet
            exact ⟨by rw [z0, z1]; rfl, rfl⟩
      case rest =>
        obtain ⟨hcv, hwx⟩ := hcut
        subst hwx
        subst hcv
        obtain ⟨ob, hob⟩ : ∃ b, (decide (vo < 0) || decide (6 < vo)) = b := ⟨_, rfl⟩
        rw [hob]
        go_upto_if 76 with fail
        go_cut [14, 15, 16, 17] (fun _ _ _ _ wx => Mod (fun _ => False) wq6 wx)
        case first =>
          cases ob with
          | false =>
            go_wp2_with fail
            go_meet
            exact Mod.refl _ _
          | true =>
            have hno : edge1 7 vo = false := decide_eq_false (fun h => by have h1 : ¬ vo < 0 := (by omega); have h2 : ¬ 6 < vo := (by omega); rw [decide_eq_false h1, decide_eq_false h2] at hob; cases hob)
            have HNO := Lib.hid hno
            clear hno hob
            go_wp2_with (first | (at_builtin; refine wpList_append_any rfl (.tmp 80) (.tmp 81) 28 rfl 3 iI (.int .i64 0) 1 8 Try.underlying28 hiI hzI hsI hbI rfl (by decide) _ 0 _ rfl (own_empty _ _ _ _ rfl) _ j (ks.map (Value.int .i64)) rfl (Rd.alloc ((HS.out.now).2.2.1) _) (int_one _) (by unfold maxLen; omega) (by omega) ?_; intro v4 w4 hap; obtain ⟨a4, c4, rfl⟩ := hap.form; have ho4 := hap.own; have lo4 := hap.low (B := wq6.heap.size) (by simp) (low_lit (Nat.le_refl _)); have hm4 := hap.modOld (Mod.alloc (fun _ => False) wq6 _) (low_lit (Nat.le_refl _)); simp only [Nat.zero_add, List.nil_append] at ho4 lo4; clear hap) | (at_builtin; refine wpList_append_any rfl (.tmp 82) (.tmp 84) 28 rfl 3 iI (.int .i64 0) 1 8 Try.underlying28 hiI hzI hsI hbI rfl (by decide) _ j _ rfl (World.ownsRow.alloc ho4 _) _ 1 ([.int .i64 vo]) rfl (Rd.one _ _ _) (by simp [Value.oneCell']) (by unfold maxLen; omega) (by omega) ?_; intro v5 w5 hap; obtain ⟨a5, c5, rfl⟩ := hap.form; have ho5 := hap.own; have hm5 := hap.modOld (hm4.thenAlloc _) lo4; clear hap))
            refine (close_no p 7 us1 _ (HA.out.keep hm5 (fun e => e)) _ _ _ (ks ++ [vo]) (by rw [List.length_append, HKL.out]; rfl) (by rw [List.map_append]; exact Rd.ofOwn ho5) (by omega) vu (fun h => by have h2 := h.2.2; rw [hasB_append] at h2; simp [hasB, HNO.out] at h2)).mono ?_
            rintro e w' ⟨rfl, hw⟩
            rw [← hw]
            clear hw ho4 lo4 hm4 ho5
            have HA1 := Lib.hid (HA.out.keep hm5 (fun e => e))
            clear HA
            have HA := HA1
            clear HA1
            have HB1 := Lib.hid (HB.out.keep hm5 (fun e => e))
            clear HB
            have HB := HB1
            clear HB1
            replace HS := Lib.hid (HS.out.step (Mod.upF hm5))
            have HMa := Lib.hid hm5
            clear hm5
            go_wp2_with (at_builtin; refine wpList_append_any rfl (.tmp 92) (.tmp 93) 28 rfl 3 iI (.int .i64 0) 1 8 Try.underlying28 hiI hzI hsI hbI rfl (by decide) _ 1 [.int .i64 vo] rfl (own_lit1 _ _ _ _ rfl) _ j (ks.map (Value.int .i64)) rfl (Rd.alloc ((HS.out.now).2.2.1) _) (int_one _) (by unfold maxLen; omega) (by omega) ?_; intro v6 w6 hap; obtain ⟨a6, c6, rfl⟩ := hap.form; have ho6 := hap.own; have hm6 := hap.modOld (Mod.alloc (fun _ => False) w5 _) (low_lit (Nat.le_refl _)); clear hap)
            refine (open_no p 7 us1 _ (HA.out.keep hm6 (fun e => e)) _ _ _ ([vo] ++ ks) (by rw [List.length_append, HKL.out]; rfl) (by rw [List.map_append]; exact Rd.ofOwn ho6) (by omega) (by rw [hasB_append]; simp [hasB, HNO.out])).mono ?_
            rintro e w' ⟨rfl, hw⟩
            rw [← hw]
            clear hw ho6
            have HA1 := Lib.hid (HA.out.keep hm6 (fun e => e))
            clear HA
            have HA := HA1
            clear HA1
            have HB1 := Lib.hid (HB.out.keep hm6 (fun e => e))
            clear HB
            have HB := HB1
            clear HB1
            replace HS := Lib.hid (HS.out.step (Mod.upF hm6))
            have HMb := Lib.hid (HMa.out.of2 hm6)
            clear hm6 HMa
            go_wp2_with fail
            refine (all_any p 7 us1 _ HA.out).mono ?_
            rintro e wq7 ⟨v, rfl, hoa, hmm⟩
            rw [HL.out, HN3.out] at hoa
            obtain ⟨a7, c7, rfl⟩ := own_form hoa
            have hrd := Rd.ofOwn hoa
            clear hoa
            have HA1 := Lib.hid (HA.out.keep hmm (fun e => e))
            clear HA
            have HA := HA1
            clear HA1
            have HB1 := Lib.hid (HB.out.keep hmm (fun e => e))
            clear HB
            have HB := HB1
            clear HB1
            replace HS := Lib.hid (HS.out.step (Mod.upF hmm))
            have HMc := Lib.hid (HMb.out.of2 hmm)
            clear hmm HMb
            go_wp2_with fail
            refine (same_eq _ a7 n3 c7 L HN3.out hrd wv wc0 ((HS.out.now).2.1) (by omega)).mono ?_
            rintro e wq8 ⟨rfl, hmm⟩
            clear hrd
            have HA1 := Lib.hid (HA.out.keep hmm (fun e => e))
            clear HA
            have HA := HA1
            clear HA1
            have HB1 := Lib.hid (HB.out.keep hmm (fun e => e))
            clear HB
            have HB := HB1
            clear HB1
            replace HS := Lib.hid (HS.out.step (Mod.upF hmm))
            have HMd := Lib.hid (HMc.out.of2 hmm)
            clear hmm HMc
            go_wp2_with fail
            go_meet
            exact HMd.out
        case rest =>
          have HA1 := Lib.hid (HA.out.keep hcut (fun e => e))
          clear HA
          have HA := HA1
          clear HA1
          have HB1 := Lib.hid (HB.out.keep hcut (fun e => e))
          clear HB
          have HB := HB1
          clear HB1
          replace HS := Lib.hid (HS.out.step (Mod.upF hcut))
          clear hcut
          obtain ⟨U, hU⟩ : ∃ x, (if vb = true then (0 : Int) else vu) = x := ⟨_, rfl⟩
          have HU := Lib.hid hU
          clear hU
          replace HS := Lib.hid ((EvF.mod (fun k => k = p ∨ k = q) wc).and HS.out)
          obtain ⟨wz, hwz⟩ : ∃ x : World, wc = x := ⟨_, rfl⟩
          rw [hwz] at HS HA HB ⊢
          clear hwz
          go_upto_if 111 with fail
          go_cut [18, 20, 21, 22, 23] (fun nv _ _ _ _ wx => nv = .int .i64 ((turnL U us1 ks).length : Nat) ∧ SO wx p 7 (putU U us1 ks) ∧ Mod (fun k => k = p) wz wx)
          case first =>
            cases vb with
            | true =>
              have hu : U = 0 := by rw [← HU.out]; rfl
              have HUU := Lib.hid hu
              clear hu
              go_wp2_with fail
              refine (open_as p 7 us1 _ HA.out av j cv ks ⟨(HS.out.now).2.2.2.1, HKL.out, fun k hk e => by have := HBK.out k hk; omega⟩ (by omega) HKH.out _ rfl _ rfl (putU 0 us1 ks) rfl).mono ?_
              rintro e wn ⟨xa2, xc2, rfl, _, hsn, hmm⟩
              have HSN := Lib.hid hsn
              have HMM := Lib.hid hmm
              clear hsn hmm
              go_wp2_with fail
              go_meet
              exact ⟨by rw [srtI_len, HUU.out], by rw [HUU.out]; exact HSN.out, HMM.out⟩
            | false =>
              have hu : U = vu := by rw [← HU.out]; rfl
              have HUU := Lib.hid hu
              clear hu
              go_wp2_with fail
              refine (close_as p 7 us1 _ HA.out av j cv ks ⟨(HS.out.now).2.2.2.1, HKL.out, fun k hk e => by have := HBK.out k hk; omega⟩ (by omega) HKH.out vu (by omega) (by omega) _ rfl _ rfl (putU vu us1 ks) rfl).mono ?_
              rintro e wn ⟨xa2, xc2, rfl, _, hsn, hmm⟩
              have HSN := Lib.hid hsn
              have HMM := Lib.hid hmm
              clear hsn hmm
              go_wp2_with fail
              go_meet
              exact ⟨by rw [srtI_len, HUU.out], by rw [HUU.out]; exact HSN.out, HMM.out⟩
          case rest =>
            obtain ⟨hnv, hsn, hmm⟩ := hcut
            subst hnv
            have HB1 := Lib.hid (HB.out.keep hmm hqp)
            clear HB
            have HB := HB1
            clear HB1
            clear HA
            have HA := Lib.hid hsn
            replace HS := Lib.hid (HS.out.step (Mod.mono hmm (fun _ _ e => Or.inl e)))
            clear hmm hsn
            obtain ⟨tn, htn⟩ : ∃ n, (turnL U us1 ks).length = n := ⟨_, rfl⟩
            rw [htn]
            have HTN := Lib.hid htn
            have htl : tn ≤ j := by rw [← htn]; have := turnL_len U us1 ks; rw [HKL.out] at this; exact this
            clear htn
            go_wp2_with fail
            replace HS := Lib.hid ((EvF.mod (fun k => k = p ∨ k = q) wc).and HS.out)
            go_loopw [19, 24] (fun mv i wr => ∃ ii : Nat, ii ≤ j ∧ i = .int .i64 ii ∧ mv = .int .i64 ((turnL U us1 (ks.take ii)).length : Nat) ∧ SO wr p 7 (putU U us1 ks) ∧ SO wr q 7 (putU U us1 (ks.take ii)) ∧ Mod (fun k => k = p ∨ k = q) wc wr) (fun _ i _ => j - (intOf i).toNat)
            case atStart => exact ⟨0, by omega, rfl, rfl, HA.out, HB.out, Mod.refl _ _⟩
            case round =>
              obtain ⟨ii, hii, rfl, rfl, ha, hb, hmr⟩ := hrel
              obtain ⟨wo2, hwo⟩ : ∃ x : World, x = wr := ⟨_, rfl⟩
              subst hwo
              clear HA HB
              have HA := Lib.hid ha
              have HB := Lib.hid hb
              clear ha hb
              replace HS := Lib.hid (HS.out.step hmr)
              clear hmr
              obtain ⟨tm, htm⟩ : ∃ n, (turnL U us1 (ks.take ii)).length = n := ⟨_, rfl⟩
              rw [htm]
              have HTM := Lib.hid htm
              have html : tm ≤ ii := by rw [← htm]; have := turnL_len U us1 (ks.take ii); have h2 : (ks.take ii).length ≤ ii := List.length_take_le _ _; omega
              clear htm
              by_cases hlt : ii < j
              case neg =>
                obtain rfl : ii = j := by omega
                have z0 : decide ((ii : Int) < (ii : Int)) = false := by simp
                have htk : ks.take ii = ks := List.take_of_length_le (by rw [HKL.out]; exact Nat.le_refl _)
                rw [htk] at HB
                have htt : tm = tn := by rw [← HTM.out, ← HTN.out, htk]
                clear htk
                subst htt
                have zt : ((tm : Int) == (tm : Int)) = true := by simp
                obtain ⟨us3, hus3⟩ : ∃ x, putU U us1 ks = x := ⟨_, rfl⟩
                rw [hus3] at HA HB
                clear hus3
                go_wp2_with fail
                have hlbra3 := HA.out.blk.lt
                have hlqra3 := HB.out.blk.lt
                refine (all_any p 7 us3 _ HA.out).mono ?_
                rintro e wq9 ⟨v, rfl, hoa, hmm⟩
                obtain ⟨xa8, xc8, rfl⟩ := own_form hoa
                have hlo : ∀ k, (Value.slice xa8 (allK us3 7).length xc8).ownBlock = some k → (k = p ∨ k = q) → (allK us3 7).flatMap c2s = [] := fun k hk e => by have h1 := (hoa.lt k hk).1; rcases e with e | e <;> omega
                have hrd := Rd.ofOwn hoa
                clear hoa hlbra3 hlqra3
                have HA1 := Lib.hid (HA.out.keep hmm (fun e => e))
                clear HA
                have HA := HA1
                clear HA1
                have HB1 := Lib.hid (HB.out.keep hmm (fun e => e))
                clear HB
                have HB := HB1
                clear HB1
                replace HS := Lib.hid (HS.out.step (Mod.upF hmm))
                replace HS := Lib.hid ((EvF.rdA hrd hlo).and HS.out)
                clear hmm hrd hlo
                go_wp2_with fail
                have hlbrb3 := HB.out.blk.lt
                have hlqrb3 := HA.out.blk.lt
                refine (all_any q 7 us3 _ HB.out).mono ?_
                rintro e wq10 ⟨v, rfl, hoa, hmm⟩
                obtain ⟨xa9, xc9, rfl⟩ := own_form hoa
                have hlo : ∀ k, (Value.slice xa9 (allK us3 7).length xc9).ownBlock = some k → (k = p ∨ k = q) → (allK us3 7).flatMap c2s = [] := fun k hk e => by have h1 := (hoa.lt k hk).1; rcases e with e | e <;> omega
                have hrd := Rd.ofOwn hoa
                clear hoa hlbrb3 hlqrb3
                have HA1 := Lib.hid (HA.out.keep hmm (fun e => e))
                clear HA
                have HA := HA1
                clear HA1
                have HB1 := Lib.hid (HB.out.keep hmm (fun e => e))
                clear HB
                have HB := HB1
                clear HB1
                replace HS := Lib.hid (HS.out.step (Mod.upF hmm))
                replace HS := Lib.hid ((EvF.rdA hrd hlo).and HS.out)
                clear hmm hrd hlo
                obtain ⟨L3, hL⟩ : ∃ L, allK us3 7 = L := ⟨_, rfl⟩
                have hLn3 : L3.length ≤ 7 := by rw [← hL]; exact allK_len us3 7
                rw [hL] at HS ⊢
                obtain ⟨n4, hn3⟩ : ∃ n, L3.length = n := ⟨_, rfl⟩
                rw [hn3] at HS hLn3 ⊢
                have HN4 := Lib.hid hn3
                clear hL hn3
                go_wp2_with fail
                refine (same_eq _ xa8 n4 xc8 L3 HN4.out ((HS.out.now).2.1) xa9 xc9 ((HS.out.now).1) (by omega)).mono ?_
                rintro e wq11 ⟨rfl, hmm⟩
                have HA1 := Lib.hid (HA.out.keep hmm (fun e => e))
                clear HA
                have HA := HA1
                clear HA1
                have HB1 := Lib.hid (HB.out.keep hmm (fun e => e))
                clear HB
                have HB := HB1
                clear HB1
                replace HS := Lib.hid (HS.out.step (Mod.upF hmm))
                clear hmm
                go_wp2_with fail
                refine (awake10_any _).mono ?_
                rintro e wq12 ⟨rfl, hmm⟩
                have HA1 := Lib.hid (HA.out.keep hmm (fun e => e))
                clear HA
                have HA := HA1
                clear HA1
                have HB1 := Lib.hid (HB.out.keep hmm (fun e => e))
                clear HB
                have HB := HB1
                clear HB1
                replace HS := Lib.hid (HS.out.step (Mod.upF hmm))
                clear hmm
                go_wp2_with fail
                go_ret
                exact ⟨rfl, HM0.out.old ((HS.out.now).2.2.2.2.2.2.2) (fun i hi => by have h1 := HPB.out; have h2 := HQB.out; rcases hi with hi | hi <;> omega)⟩
              case pos =>
                have z0 : decide ((ii : Int) < (j : Int)) = true := by simp; omega
                have hil : ii < ks.length := by rw [HKL.out]; exact hlt
                have HTT := Lib.hid (turn_take U us1 ks ii hil)
                have HPT := Lib.hid (put_take U us1 ks ii hil)
                have hhx : hasB 7 [ks[ii]] = true := by have h := HKH.out; unfold hasB at h ⊢; rw [List.all_eq_true] at h ⊢; intro x hx; rw [List.mem_singleton.1 hx]; exact h _ (List.getElem_mem hil)
                have HHX := Lib.hid hhx
                clear hhx
                obtain ⟨us4, hus4⟩ : ∃ x, putU U us1 (ks.take ii) = x := ⟨_, rfl⟩
                rw [hus4] at HB HTT HPT
                clear hus4
                obtain ⟨eb, eo, hpl, e0⟩ := rd1 ((HS.out.now).2.2.2.2.1) ii hil
                have hix := fun wx => run_indexS (P := Try.prog) wx 28 3 iI 1 Try.underlying28 hiI hsI av j cv ii hlt (((HS.out.now).2.2.2.2.1).some_ (by omega))
                rw [hpl] at hix
                obtain ⟨kx, hkx⟩ : ∃ x, ks[ii] = x := ⟨_, rfl⟩
                rw [hkx] at e0 HTT HPT HHX
                clear hpl hkx
                have htb : (turnL U us4 [kx]).length ≤ 1 := turnL_len U us4 [kx]
                cases vb with
                | true =>
                  have hu : U = 0 := by rw [← HU.out]; rfl
                  rw [hu] at HTT HPT htb
                  have HUU := Lib.hid hu
                  clear hu
                  go_wp2_with fail
                  refine (open_as q 7 us4 _ (HB.out.keep (Mod.alloc (fun _ => False) _ _) (fun e => e)) _ _ _ [kx] (xr_lit HB.out.blk.lt 3 [kx] 1 _ rfl rfl (by omega)) (by omega) HHX.out _ rfl _ rfl (putU 0 us4 [kx]) rfl).mono ?_
                  rintro e wq13 ⟨xa2, xc2, rfl, _, hsn, hmm⟩
                  have hmt : Mod (fun k => k = q) wo2 wq13 := (Mod.mono (Mod.alloc (fun _ => False) _ _) (fun _ _ e => e.elim)).ofF hmm
                  have HA1 := Lib.hid (HA.out.keep hmt hpq)
                  clear HA
                  have HA := HA1
                  clear HA1
                  clear HB
                  have HB := Lib.hid hsn
                  replace HS := Lib.hid (HS.out.step (Mod.mono hmt (fun _ _ e => Or.inr e)))
                  clear hmm hmt hsn
                  rw [srtI_len]
                  obtain ⟨tx, htx⟩ : ∃ n, (turnL 0 us4 [kx]).length = n := ⟨_, rfl⟩
                  rw [htx] at HTT htb ⊢
                  clear htx
                  go_wp2_with fail
                  go_roundw
                  case rel => exact ⟨ii + 1, hlt, by go_num, by rw [HUU.out, HTT.out, ← HUU.out, HTM.out]; go_num, HA.out, by rw [HUU.out, HPT.out]; exact HB.out, (HS.out.now).1⟩
                  case measure => simp [intOf]; omega
                | false =>
                  have hu : U = vu := by rw [← HU.out]; rfl
                  rw [hu] at HTT HPT htb
                  have HUU := Lib.hid hu
                  clear hu
                  go_wp2_with fail
                  refine (close_as q 7 us4 _ (HB.out.keep (Mod.alloc (fun _ => False) _ _) (fun e => e)) _ _ _ [kx] (xr_lit HB.out.blk.lt 3 [kx] 1 _ rfl rfl (by omega)) (by omega) HHX.out vu (by omega) (by omega) _ rfl _ rfl (putU vu us4 [kx]) rfl).mono ?_
                  rintro e wq14 ⟨xa2, xc2, rfl, _, hsn, hmm⟩
                  have hmt : Mod (fun k => k = q) wo2 wq14 := (Mod.mono (Mod.alloc (fun _ => False) _ _) (fun _ _ e => e.elim)).ofF hmm
                  have HA1 := Lib.hid (HA.out.keep hmt hpq)
                  clear HA
                  have HA := HA1
                  clear HA1
                  clear HB
                  have HB := Lib.hid hsn
                  replace HS := Lib.hid (HS.out.step (Mod.mono hmt (fun _ _ e => Or.inr e)))
                  clear hmm hmt hsn
                  rw [srtI_len]
                  obtain ⟨tx, htx⟩ : ∃ n, (turnL vu us4 [kx]).length = n := ⟨_, rfl⟩
                  rw [htx] at HTT htb ⊢
                  clear htx
                  go_wp2_with fail
                  go_roundw
                  case rel => exact ⟨ii + 1, hlt, by go_num, by rw [HUU.out, HTT.out, ← HUU.out, HTM.out]; go_num, HA.out, by rw [HUU.out, HPT.out]; exact HB.out, (HS.out.now).1⟩
                  case measure => simp [intOf]; omega
theorem all10_law (w : World) (a : Option Addr) (m c : Nat) (l : List Int) (ok : (encSlice (encInt .i64)).ok w (.slice a m c, l)) (vu : Int) (_ : (Lit.int .i64 vu).wf = true) (vo : Int) (_ : (Lit.int .i64 vo).wf = true) (vb : Bool) :
    Calls Try.prog 6 #[.slice a m c, .int .i64 vu, .int .i64 vo, .bool vb] w fun e w' => e = .returned (.bool true) ∧ Below w.heap.size w w' := by
  obtain ⟨h1, r1, _⟩ := ok_ints ok
  exact (all10_all w a m c l h1 r1 vu vo vb).mono fun e w' h => ⟨h.1, h.2.below (Nat.le_refl _) (fun _ e => e.elim)⟩
end Go.Proofs.Ythlpednakhjmhaa
