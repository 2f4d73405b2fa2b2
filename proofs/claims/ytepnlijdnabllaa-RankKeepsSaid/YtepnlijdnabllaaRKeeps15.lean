/- Law RankKeeps. -/
import Derived.Test.YtepnlijdnabllaaRTells15
import Derived.Test.YtepnlijdnabllaaKeepP
import Derived.Test.YtepnlijdnabllaaRCopy
namespace Go.Proofs.Ytepnlijdnabllaa
open Go.RowKit Mile
set_option maxRecDepth 100000
theorem arcsL_w20 (n : Int) (T : List T3) : ∀ a ∈ arcsR n T, a.w ≤ 20 := by
  intro b hb
  unfold arcsR at hb
  split at hb
  · obtain ⟨x, _, hx⟩ := List.mem_flatMap.1 hb
    unfold arcT at hx
    split at hx
    · cases hx
    · rw [List.mem_singleton] at hx
      subst hx
      have g6 := Int.emod_lt_of_pos x.2.2 (b := 20) (by omega)
      simp only; omega
  · cases hb
theorem net20 (n : Nat) (T : List T3) : ∀ a ∈ putAllN (arcsR (n : Int) T), a.w ≤ 20 := fun a ha => arcsL_w20 (n : Int) T a ((mem_putAll15 _ [] a ha).elim (fun h => by cases h) id)
/-- A shortcut may be put. -/
theorem sc_may {n : Nat} {L : List Ar} {D : Nat → Int → List Int} {v : Nat} (hok : NetOk n L) (hw : ∀ a ∈ L, a.w ≤ 20) (hD : DOk n L D) (hv : v < n) : ∀ x ∈ scR D L (v : Int), mayA n x ∧ x.w ≤ 40 ∧ x.f ≠ (v : Int) ∧ x.t ≠ (v : Int) ∧ x.m = (v : Int) := by
  intro x hx
  obtain ⟨p, hp, q, hq, ho, rfl⟩ := mem_scR.1 hx
  have hpL := (List.mem_filter.1 hp).1
  have hqL := (List.mem_filter.1 hq).1
  have hpt := of_decide_eq_true (List.mem_filter.1 hp).2
  have hqf := of_decide_eq_true (List.mem_filter.1 hq).2
  have h1 := hok.may p hpL
  have h2 := hok.may q hqL
  have h3 := hw p hpL
  have h4 := hw q hqL
  unfold mayA at h1 h2 ⊢
  have hne : p.f ≠ q.t := fun e => by
    obtain ⟨c, hc⟩ := Int.eq_ofNat_of_zero_le h1.1
    unfold ovB at ho
    rw [← e, hc, Int.toNat_natCast] at ho
    rw [found_self (hD c (v : Int)) (by omega) (by omega) _ (by omega)] at ho
    cases ho
  simp only
  exact ⟨⟨by omega, by omega, by omega, by omega, hne, by omega, by omega, .inr ⟨by omega, by omega, by omega, by omega⟩⟩, by omega, by omega, by omega, by first | rfl | trivial⟩
theorem putRs_eq {n : Nat} (A : List Ar) : ∀ L, (∀ x ∈ A, mayA n x) → A.foldl (putR n) L = A.foldl putN L := by
  induction A with
  | nil => exact fun _ _ => rfl
  | cons x A ih =>
    intro L h
    rw [List.foldl_cons, List.foldl_cons, show putR n L x = putN L x from if_pos (h x List.mem_cons_self)]
    exact ih _ (fun y hy => h y (List.mem_cons_of_mem _ hy))
theorem putRs_ok {n : Nat} (A : List Ar) : ∀ L, NetOk n L → NetOk n (A.foldl (putR n) L) ∧ (A.foldl (putR n) L).length ≤ L.length + A.length := by
  induction A with
  | nil => exact fun L h => ⟨h, Nat.le_refl _⟩
  | cons x A ih =>
    intro L h
    rw [List.foldl_cons]
    have h1 : NetOk n (putR n L x) ∧ (putR n L x).length ≤ L.length + 1 := by
      unfold putR
      split
      · rename_i hx
        have h2 := putAll_ok [x] L h (fun b hb => by rw [List.mem_singleton] at hb; rw [hb]; exact hx)
        exact ⟨h2.1, h2.2⟩
      · exact ⟨h, Nat.le_succ _⟩
    have h2 := ih _ h1.1
    exact ⟨h2.1, by rw [List.length_cons]; omega⟩
set_option maxHeartbeats 16000000 in
theorem rkkeeps_all (w : World) (n : Nat) (h1n : 1 ≤ n) (h25 : n ≤ 20) (a : Option Addr) (ln c : Nat) (T : List T3) (hT : T.length = ln) (hr : Rd w 3 (.slice a ln c) ln (T.flatMap c3T)) (hln : ln ≤ 80) (av : Int) :
    Calls Try.prog 4 #[.int .i64 (n : Int), .slice a ln c, .int .i64 av] w fun e w' => e = .returned (.bool true) ∧ Mod (fun _ => False) w w' := by
  obtain ⟨iA, hiA, hzA, hsA, hbA⟩ := info_parts Nt.infoA
  obtain ⟨iI, hiI, hzI, hsI, hbI⟩ := info_parts Nt.infoI
  have y0 : decide ((n : Int) < 1) = false := by simp; omega
  have y1 : decide ((20 : Int) < (n : Int)) = false := by simp; omega
  have y2 : decide ((80 : Int) < (ln : Int)) = false := by simp; omega
  have y2n : decide (80 < ln) = false := by simp; omega
  have hn0 : (0 : Int) < (n : Int) := by omega
  have hn1 : (n : Int) ≤ 4611686018427387904 := by omega
  obtain ⟨v, hvv⟩ := Int.eq_ofNat_of_zero_le (Int.emod_nonneg av (b := (n : Int)) (by omega))
  have hv : v < n := by have := Int.emod_lt_of_pos av hn0; omega
  have HRO := Lib.hid (fun W => round_any av n W hn0 hn1)
  rw [hvv] at HRO
  have hw20 := net20 n T
  have HMD := Lib.hid (made15_any w n (by omega) a ln c T hT hr (by omega))
  have HW := Lib.hid (net15 n T)
  have hle := arcsR_len (n : Int) T
  have hle0 : (putAllN (arcsR (n : Int) T)).length ≤ 80 := by
    have h := (putAll_ok (arcsR (n : Int) T) [] (NetOk.nil n) (arcsR_may T)).2
    unfold putAllN
    simp only [List.length_nil] at h; omega
  obtain ⟨L, hL⟩ : ∃ L, putAllN (arcsR (n : Int) T) = L := ⟨_, rfl⟩
  rw [hL] at HMD HW hle0 hw20
  have HLE : Hid (L.length ≤ 10000) := Lib.hid (by omega)
  obtain ⟨D, hD⟩ := DOk.ex n (by omega) L
  have HD := Lib.hid hD
  have hle80 : L.length ≤ 80 := hle0
  clear hL hT hr hle hle0 hD
  have HW20 := Lib.hid hw20
  clear hw20
  go_enter Try.func4, Try.ntmps4
  go_wp2_with fail
  refine HMD.out.mono ?_
  rintro e w1 ⟨q, F, m, rfl, hnt, hrn, hF, hmz, hm⟩
  have HN := Lib.hid (And.intro hnt hrn)
  have HM1 := Lib.hid hm
  have HFF := Lib.hid (And.intro hF hmz)
  clear hnt hrn hF hmz hm HMD
  go_wp2_with fail
  refine (HRO.out _).mono ?_
  rintro e w' ⟨rfl, rfl⟩
  go_wp2_with fail
  refine (rk_sc HN.out.1 HW.out HD.out v hv).mono ?_
  rintro e w2 ⟨a2, c2, rfl, ho2, hm2⟩
  have HN2 := Lib.hid (And.intro (HN.out.1.later hm2) (HN.out.2.later hm2))
  have HM2 := Lib.hid (HM1.out.of2 hm2)
  have HO2 := Lib.hid (Rd.ofOwn ho2)
  clear hm2 ho2
  have hsl : (scR D L (v : Int)).length ≤ 400 := by
    have h1 := scI_len D L (v : Int) (inL L (v : Int))
    have h2 := inL_len HN.out.1.ok (v : Int)
    have h3 := outL_len HN.out.1.ok (v : Int)
    have h4 := Nat.mul_le_mul h2 h3
    have h5 : n * n ≤ 20 * 20 := Nat.mul_le_mul h25 h25
    have h6 : (scR D L (v : Int)).length = (scI D L (v : Int) (inL L (v : Int))).length := rfl
    omega
  have HMY := Lib.hid (sc_may HN.out.1.ok HW20.out HD.out hv)
  have HWV : Hid (wthR D L (v : Int) = ((scR D L (v : Int)).length : Int) - (inL L (v : Int)).length - (outL L (v : Int)).length) := Lib.hid rfl
  have HKE := Lib.hid (fun (x : Nat) (hxv : x ≠ v) (h1 : NetOk n ((scR D L (v : Int)).foldl putN (cutN L (v : Int)))) (h2 : ∀ b ∈ (scR D L (v : Int)).foldl putN (cutN L (v : Int)), b.w ≤ 65535) (d d2 : List Int) (h3 : Fix (netW n L (x : Int) (-1)) d) (h4 : Fix (netW n ((scR D L (v : Int)).foldl putN (cutN L (v : Int))) (x : Int) (-1)) d2) => keeps HN.out.1.ok HW.out HD.out hv hxv h1 h2 h3 h4)
  obtain ⟨S, hS⟩ : ∃ y, scR D L (v : Int) = y := ⟨_, rfl⟩
  rw [hS] at HO2 hsl HMY HWV HKE ⊢
  clear hS
  obtain ⟨ns, hns⟩ : ∃ y, S.length = y := ⟨_, rfl⟩
  have HO3 := Lib.hid (by have h := HO2.out; rw [hns] at h; exact h)
  have HWV2 := Lib.hid (by have h := HWV.out; rw [hns] at h; exact h)
  rw [hns] at hsl ⊢
  have HNS := Lib.hid hns
  clear hns HO2 HWV
  go_wp2_with fail
  refine (rn_copy HN2.out.2 HLE.out).mono ?_
  rintro e w3 ⟨p, rfl, hrg3, hp3, hm3⟩
  have HC3 := Lib.hid (And.intro hrg3 (And.intro hp3 hm3))
  clear hrg3 hp3 hm3
  go_wp2_with fail
  refine (rn_cut HC3.out.1 HLE.out (v : Int)).mono ?_
  rintro e w4 ⟨rfl, hrg4, hm4⟩
  have hm24 : Mod (fun _ => False) w2 w4 := HC3.out.2.2.trans hm4 (fun _ _ e => e) (fun k hk e => by have e2 : k = p := e; have := HC3.out.2.1; omega)
  have hG4 : RNG w4 p n (cutN L (v : Int)) (fun k => w2.heap.size ≤ k) := by
    obtain ⟨x1, x2, x3, x4, x5⟩ := hrg4
    exact ⟨x1, x2, x3, x4, fun k hk => ⟨(x5 k hk).1, (x5 k hk).2.elim id (fun e => by have := HC3.out.2.2.size; show w2.heap.size ≤ k; omega)⟩⟩
  have HC4 := Lib.hid (And.intro hG4 hm24)
  have HL1 : Hid ((cutN L (v : Int)).length ≤ 80) := Lib.hid (Nat.le_trans (List.length_filter_le _ _) hle80)
  clear hrg4 hm4 hm24 hG4
  go_wp2_with fail
  go_loopw [12] (fun i wr => ∃ k : Nat, k ≤ ns ∧ i = .int .i64 k ∧ RNG wr p n ((S.take k).foldl (putR n) (cutN L (v : Int))) (fun j => w2.heap.size ≤ j) ∧ Mod (fun _ => False) w2 wr) (fun i _ => ns - (intOf i).toNat)
  case atStart => exact ⟨0, by omega, rfl, HC4.out.1, HC4.out.2⟩
  case round =>
    obtain ⟨k, hk, rfl, hrg, hm⟩ := hrel
    obtain ⟨wo, hwo⟩ : ∃ x : World, x = wr := ⟨_, rfl⟩
    subst hwo
    have HS := Lib.hid (And.intro hrg hm)
    clear hrg hm
    by_cases hlt : k < ns
    case pos =>
      have z0 : decide ((k : Int) < (ns : Int)) = true := by simp; omega
      have hkl : k < S.length := by rw [HNS.out]; exact hlt
      have hrd := HO3.out.keep HS.out.2 (fun _ _ e => e)
      obtain ⟨eb, eo, hpe, e0, e1, e2, e3⟩ := rd4 hrd k hkl
      have hix := fun wx => run_indexS (P := Try.prog) wx 30 42 iA 4 Try.underlying30 hiA hsA a2 ns c2 k hlt (hrd.some_ (by omega))
      rw [hpe] at hix
      have hmy := HMY.out S[k] (List.getElem_mem hkl)
      obtain ⟨x, hx⟩ : ∃ x, S[k] = x := ⟨_, rfl⟩
      rw [hx] at e0 e1 e2 e3 hmy
      have hak : S.take (k + 1) = S.take k ++ [x] := by rw [List.take_succ_eq_append_getElem hkl, hx]
      obtain ⟨xf, xt, xw, xm⟩ := x
      simp only at e0 e1 e2 e3 hmy
      obtain ⟨_, _, hxf, hxt, rfl⟩ := hmy
      have z1 : ((v : Int) == (v : Int)) = true := by simp
      have z1b : ((v : Int) != (v : Int)) = false := by simp
      have z2 : (xf == (v : Int)) = false := beq_eq_false_iff_ne.2 hxf
      have z3 : (xt == (v : Int)) = false := beq_eq_false_iff_ne.2 hxt
      have hokp := putRs_ok (S.take k) (cutN L (v : Int)) (cut_okK HN.out.1.ok (v : Int))
      have hlen : ((S.take k).foldl (putR n) (cutN L (v : Int))).length ≤ 10000 := by
        have h1 := HL1.out
        have h2 : (S.take k).length ≤ 400 := by rw [List.length_take]; omega
        omega
      have hpu := Lib.hid (rn_putG HS.out.1 hokp.1 (by omega) hlen xf xt xw (v : Int))
      have HAK := Lib.hid hak
      clear hak hxf hxt hx hpe hrd hkl hokp hlen
      go_wp2_with fail
      refine hpu.out.mono ?_
      rintro e w5 ⟨rfl, hrg5, hm5⟩
      have hpz := HC3.out.2.1
      have hm25 : Mod (fun _ => False) w2 w5 := HS.out.2.trans hm5 (fun _ _ e => e) (fun j hj e => by have e2 : j = p := e; omega)
      have hG5 : RNG w5 p n ((S.take (k + 1)).foldl (putR n) (cutN L (v : Int))) (fun j => w2.heap.size ≤ j) := by
        rw [HAK.out, List.foldl_append]
        obtain ⟨x1, x2, x3, x4, x5⟩ := hrg5
        exact ⟨x1, x2, x3, x4, fun j hj => ⟨(x5 j hj).1, (x5 j hj).2.elim id (fun e => by have := HS.out.2.size; show w2.heap.size ≤ j; omega)⟩⟩
      have HE := Lib.hid (And.intro hG5 hm25)
      clear hrg5 hm5 hm25 hG5 hpu hpz
      go_wp2_with fail
      go_roundw
      case rel => exact ⟨k + 1, hlt, by go_num, HE.out.1, HE.out.2⟩
      case measure => simp [intOf]; omega
    case neg =>
      have z0 : decide ((k : Int) < (ns : Int)) = false := by simp; omega
      have hrn5 : RN wo p n (S.foldl putN (cutN L (v : Int))) := by
        have h1 := HS.out.1.rn
        rw [List.take_of_length_le (by have := HNS.out; omega), putRs_eq S _ (fun x hx => (HMY.out x hx).1)] at h1
        exact h1
      have hok5 : NetOk n (S.foldl putN (cutN L (v : Int))) ∧ (S.foldl putN (cutN L (v : Int))).length ≤ 10000 := by
        have h1 := putAll_ok S (cutN L (v : Int)) (cut_okK HN.out.1.ok (v : Int)) (fun x hx => (HMY.out x hx).1)
        have := HL1.out
        have := HNS.out
        exact ⟨h1.1, by omega⟩
      have hw5 : ∀ b ∈ S.foldl putN (cutN L (v : Int)), b.w ≤ 65535 := fun b hb => (mem_putAll15 S _ b hb).elim (fun h => HW.out b (List.mem_filter.1 h).1) (fun h => by have := (HMY.out b h).2.1; omega)
      have HK := Lib.hid (And.intro hrn5 (And.intro hok5 hw5))
      have HMo := Lib.hid HS.out.2
      clear hrn5 hok5 hw5
      go_wp2_with fail
      go_loopw [13] (fun i wr => ∃ k : Nat, k ≤ n ∧ i = .int .i64 k ∧ Mod (fun _ => False) wo wr) (fun i _ => n - (intOf i).toNat)
      case atStart => exact ⟨0, by omega, rfl, Mod.refl _ _⟩
      case round =>
        obtain ⟨x, hx, rfl, hmx⟩ := hrel
        obtain ⟨wx0, hwx⟩ : ∃ z : World, z = wr := ⟨_, rfl⟩
        subst hwx
        have HX := Lib.hid hmx
        clear hmx
        by_cases hxl : x < n
        case pos =>
          have z4 : decide ((x : Int) < (n : Int)) = true := by simp; omega
          obtain ⟨d2, hd2⟩ := netW_ex n (by omega) (S.foldl putN (cutN L (v : Int))) (x : Int) (-1)
          have HD2 := Lib.hid hd2
          clear hd2
          have hA1 := Lib.hid (rn_all (HN2.out.2.later (HMo.out.of2 HX.out)) HN.out.1.ok HW.out (by omega) HLE.out (x : Int) (D x (-1)) (HD.out x (-1)))
          go_wp2_with fail
          refine hA1.out.mono ?_
          rintro e w6 ⟨da, dc, rfl, ho6, hm6⟩
          have hA2 := Lib.hid (rn_all ((HK.out.1.later HX.out).later hm6) HK.out.2.1.1 HK.out.2.2 (by omega) HK.out.2.1.2 (x : Int) d2 HD2.out)
          have H6 := Lib.hid (And.intro ho6 (HX.out.of2 hm6))
          clear ho6 hm6 hA1
          go_wp2_with fail
          refine hA2.out.mono ?_
          rintro e w7 ⟨ea, ec, rfl, ho7, hm7⟩
          have H7 := Lib.hid (And.intro ((Rd.ofOwn H6.out.1).keep hm7 (fun _ _ e => e)) (And.intro (Rd.ofOwn ho7) (H6.out.2.of2 hm7)))
          clear ho7 hm7 hA2
          go_wp2_with fail
          go_loopw [16] (fun i wr => ∃ k : Nat, k ≤ n ∧ i = .int .i64 k ∧ Mod (fun _ => False) w7 wr) (fun i _ => n - (intOf i).toNat)
          case atStart => exact ⟨0, by omega, rfl, Mod.refl _ _⟩
          case round =>
            obtain ⟨y, hy, rfl, hmy⟩ := hrel
            obtain ⟨wy, hwy⟩ : ∃ z : World, z = wr := ⟨_, rfl⟩
            subst hwy
            by_cases hyl : y < n
            case neg =>
              have z5 : decide ((y : Int) < (n : Int)) = false := by simp; omega
              have HY := Lib.hid hmy
              clear hmy
              go_wp2_with fail
              go_roundw
              case rel => exact ⟨x + 1, hxl, by go_num, H7.out.2.2.of2 HY.out⟩
              case measure => simp [intOf]; omega
            case pos =>
              have z5 : decide ((y : Int) < (n : Int)) = true := by simp; omega
              have hr1 := H7.out.1.keep hmy (fun _ _ e => e)
              have hr2 := H7.out.2.1.keep hmy (fun _ _ e => e)
              have hl1 : (D x (-1)).length = n := (HD.out x (-1)).len
              have hl2 : d2.length = n := HD2.out.len
              obtain ⟨b1, o1, hp1, c1⟩ := rd1 hr1 y (by omega)
              obtain ⟨b2, o2, hp2, c2⟩ := rd1 hr2 y (by omega)
              have hi1 := fun wx => run_indexS (P := Try.prog) wx 44 3 iI 1 Try.underlying44 hiI hsI da n dc y hyl (hr1.some_ (by omega))
              have hi2 := fun wx => run_indexS (P := Try.prog) wx 44 3 iI 1 Try.underlying44 hiI hsI ea n ec y hyl (hr2.some_ (by omega))
              rw [hp1] at hi1
              rw [hp2] at hi2
              obtain ⟨q1, hq1⟩ : ∃ z, (D x (-1))[y]'(by omega) = z := ⟨_, rfl⟩
              obtain ⟨q2, hq2⟩ : ∃ z, d2[y]'(by omega) = z := ⟨_, rfl⟩
              rw [hq1] at c1
              rw [hq2] at c2
              have hsame : x ≠ v → y ≠ v → q1 = q2 := fun h1 h2 => by
                have h3 := HKE.out x h1 HK.out.2.1.1 HK.out.2.2 _ _ (HD.out x (-1)) HD2.out y h2
                rw [dAt_eq _ y (by omega), dAt_eq _ y (by omega), hq1, hq2] at h3
                exact h3
              have HSA := Lib.hid hsame
              have HY := Lib.hid hmy
              clear hsame hmy hr1 hr2 hl1 hl2 hp1 hp2 hq1 hq2
              go_upto_region 23 with fail
              by_cases hxv : x = v
              · have z6 : ((x : Int) == (v : Int)) = true := by rw [beq_iff_eq]; omega
                have z6n : (x == v) = true := by rw [beq_iff_eq]; exact hxv
                have z6b : ((x : Int) != (v : Int)) = false := by simp [hxv]
                clear hxv
                go_quiet (fail)
                go_wp2_with fail
                go_roundw
                case rel => exact ⟨y + 1, hyl, by go_num, HY.out.of2 (Mod.drewN _ _ _)⟩
                case measure => simp [intOf]; omega
              · have z6 : ((x : Int) == (v : Int)) = false := by rw [beq_eq_false_iff_ne]; omega
                have z6n : (x == v) = false := by rw [beq_eq_false_iff_ne]; exact hxv
                have z6b : ((x : Int) != (v : Int)) = true := by simp; omega
                by_cases hyv : y = v
                · have z7 : ((y : Int) == (v : Int)) = true := by rw [beq_iff_eq]; omega
                  have z7n : (y == v) = true := by rw [beq_iff_eq]; exact hyv
                  have z7b : ((y : Int) != (v : Int)) = false := by simp [hyv]
                  clear hxv hyv
                  go_quiet (fail)
                  go_wp2_with fail
                  go_roundw
                  case rel => exact ⟨y + 1, hyl, by go_num, HY.out.of2 (Mod.drewN _ _ _)⟩
                  case measure => simp [intOf]; omega
                · have z7 : ((y : Int) == (v : Int)) = false := by rw [beq_eq_false_iff_ne]; omega
                  have z7n : (y == v) = false := by rw [beq_eq_false_iff_ne]; exact hyv
                  have z7b : ((y : Int) != (v : Int)) = true := by simp; omega
                  obtain rfl := HSA.out hxv hyv
                  have z8 : (q1 == q1) = true := by simp
                  have z8b : (q1 != q1) = false := by simp
                  clear hxv hyv
                  go_quiet (fail)
                  go_wp2_with fail
                  go_roundw
                  case rel => exact ⟨y + 1, hyl, by go_num, HY.out.of2 (Mod.drewN _ _ _)⟩
                  case measure => simp [intOf]; omega
        case neg =>
          have z4 : decide ((x : Int) < (n : Int)) = false := by simp; omega
          have HME := Lib.hid (HMo.out.of2 HX.out)
          have hwo := Lib.hid (rk_worth (HN2.out.1.later HME.out) HW.out HD.out v hv)
          obtain ⟨ni, hni⟩ : ∃ y, (inL L (v : Int)).length = y := ⟨_, rfl⟩
          obtain ⟨no, hno⟩ : ∃ y, (outL L (v : Int)).length = y := ⟨_, rfl⟩
          have hb1 := inL_len HN.out.1.ok (v : Int)
          have hb2 := outL_len HN.out.1.ok (v : Int)
          have hwv := HWV2.out
          rw [hni, hno] at hwv
          rw [hni] at hb1
          rw [hno] at hb2
          have hs1 : IntKind.i64.wrap ((ns : Int) - (ni : Int)) = (ns : Int) - (ni : Int) := IntWalk.i64_in _ (by omega)
          have hs2 : IntKind.i64.wrap ((ns : Int) - (ni : Int) - (no : Int)) = (ns : Int) - (ni : Int) - (no : Int) := IntWalk.i64_in _ (by omega)
          have HNN := Lib.hid (And.intro hni (And.intro hno hwv))
          clear hni hno hwv hb1 hb2
          go_wp2_with fail
          refine hwo.out.mono ?_
          rintro e w6 ⟨rfl, hm6⟩
          rw [HNN.out.2.2]
          have HM6 := Lib.hid (HME.out.of2 hm6)
          clear hm6 hwo
          go_wp2_with fail
          refine (rn_in (HN2.out.2.later HM6.out) HLE.out (v : Int)).mono ?_
          rintro e w7 ⟨xa, xc, rfl, _, hm7⟩
          have HM7 := Lib.hid (HM6.out.of2 hm7)
          rw [HNN.out.1]
          clear hm7
          go_wp2_with fail
          refine (rn_out (HN2.out.2.later HM7.out) HN.out.1.ok HLE.out (v : Int)).mono ?_
          rintro e w8 ⟨ya, yc, rfl, _, hm8⟩
          have HM8 := Lib.hid (HM2.out.of2 (HM7.out.of2 hm8))
          rw [HNN.out.2.1]
          clear hm8
          obtain ⟨z, hz⟩ : ∃ z : Int, (ns : Int) - (ni : Int) - (no : Int) = z := ⟨_, rfl⟩
          rw [hz] at hs2 ⊢
          have z9 : (z == z) = true := by simp
          go_wp2_with fail
          refine (awake15_any _).mono ?_
          rintro e w9 ⟨rfl, hm9⟩
          go_wp2_with fail
          go_ret
          exact ⟨rfl, HM8.out.of2 hm9⟩
theorem rkkeeps_law (w : World) (nv : Int) (_ : (Lit.int .i64 nv).wf = true) (a : Option Addr) (ln c : Nat) (T : List T3) (ok : (encSlice enc3).ok w (.slice a ln c, T)) (av : Int) (_ : (Lit.int .i64 av).wf = true) :
    Calls Try.prog 4 #[.int .i64 nv, .slice a ln c, .int .i64 av] w fun e w' => e = .returned (.bool true) ∧ Below w.heap.size w w' := by
  obtain ⟨hT, hr⟩ := ok_t3 ok
  suffices h : Calls Try.prog 4 #[.int .i64 nv, .slice a ln c, .int .i64 av] w fun e w' => e = .returned (.bool true) ∧ Mod (fun _ => False) w w' from
    h.mono fun e w' h => ⟨h.1, h.2.below (Nat.le_refl _) (fun _ e => e.elim)⟩
  by_cases hno : ¬ (1 ≤ nv ∧ nv ≤ 20 ∧ ln ≤ 80)
  case pos =>
    clear hr hT ok
    have hend : ∀ (b0 b1 b2 : Bool), decide (nv < 1) = b0 → decide (20 < nv) = b1 → decide (80 < (ln : Int)) = b2 → (b0 || b1 || b2) = true →
        Calls Try.prog 4 #[.int .i64 nv, .slice a ln c, .int .i64 av] w fun e w' => e = .returned (.bool true) ∧ Mod (fun _ => False) w w' := by
      intro b0 b1 b2 hc0 hc1 hc2 hbb
      clear hno
      cases b0
      · skip
        cases b1
        · skip
          cases b2
          · cases hbb
          · clear hbb 
            go_enter Try.func4, Try.ntmps4
            go_wp2_with fail
            refine (awake15_any _).mono ?_
            rintro e w9 ⟨rfl, hm9⟩
            go_wp2_with fail
            go_ret
            exact ⟨rfl, hm9⟩
        · clear hbb hc2
          go_enter Try.func4, Try.ntmps4
          go_wp2_with fail
          refine (awake15_any _).mono ?_
          rintro e w9 ⟨rfl, hm9⟩
          go_wp2_with fail
          go_ret
          exact ⟨rfl, hm9⟩
      · clear hbb hc1 hc2
        go_enter Try.func4, Try.ntmps4
        go_wp2_with fail
        refine (awake15_any _).mono ?_
        rintro e w9 ⟨rfl, hm9⟩
        go_wp2_with fail
        go_ret
        exact ⟨rfl, hm9⟩
    refine hend _ _ _ rfl rfl rfl ?_
    simp only [Bool.or_eq_true, decide_eq_true_eq]
    omega
  case neg =>
    have hyes := Decidable.not_not.1 hno
    obtain ⟨n, rfl⟩ := Int.eq_ofNat_of_zero_le (show 0 ≤ nv by omega)
    exact rkkeeps_all w n (by omega) (by omega) a ln c T hT hr (by omega) av
end Go.Proofs.Ytepnlijdnabllaa
