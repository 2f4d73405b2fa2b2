/- Law RankTells. -/
import Derived.Test.YtepnlijdnabllaaLaw15
import Derived.Test.YtepnlijdnabllaaSame13
import Derived.Test.YtepnlijdnabllaaKOpen
namespace Go.Proofs.Ytepnlijdnabllaa
open Go.RowKit Mile
set_option maxRecDepth 100000
theorem opens_bools15 : Opens Try.prog 23 (encSlice encBool) := opens_slice Try.underlying23 (by kernel_rfl) (opens_bool Try.underlying4) (by decide)
theorem bools_flat (G : List Bool) : (G.flatMap fun b => [Value.bool b]) = G.map Value.bool := by
  induction G with
  | nil => rfl
  | cons b G ih => rw [List.flatMap_cons, List.map_cons, ih]; rfl
theorem rd_lt {w : World} {a : Option Addr} {n c : Nat} {xs : List Value} (h : Rd w 1 (.slice a n c) n xs) : ∀ k, (Value.slice a n c).ownBlock = some k → xs = [] ∨ k < w.heap.size := by
  intro k hk
  cases xs with
  | nil => exact .inl rfl
  | cons x xs =>
    right
    obtain ⟨_, a', c', he, _, _, _, h4⟩ := h
    cases he
    cases a with
    | none => cases hk
    | some ad =>
      have h5 := (h4 ad rfl).2 0 x rfl
      have h6 := World.block_lt_of_cell? _ _ h5
      have h7 : ad.block = k := by cases ad; injection hk
      have h8 : (ad.add 0).block = ad.block := rfl
      omega
theorem ok_bools15 {w : World} {a : Option Addr} {n c : Nat} {G : List Bool} (ok : (encSlice encBool).ok w (.slice a n c, G)) : G.length = n ∧ Rd w 1 (.slice a n c) n (G.map Value.bool) := by
  obtain ⟨hr, _⟩ := ok
  have hr' : Rd w 1 (.slice a n c) G.length (G.flatMap fun b => [Value.bool b]) := hr
  rw [bools_flat] at hr'
  have hn := hr'.len_eq
  subst hn
  exact ⟨rfl, hr'⟩
set_option maxHeartbeats 16000000 in
theorem rktells_all (w : World) (n : Nat) (h25 : n ≤ 25) (a : Option Addr) (ln c : Nat) (T : List T3) (hT : T.length = ln) (hr : Rd w 3 (.slice a ln c) ln (T.flatMap c3T)) (hln : ln ≤ 80) (ga : Option Addr) (gl gc : Nat) (G : List Bool) (hG : G.length = gl) (hg : Rd w 1 (.slice ga gl gc) gl (G.map Value.bool)) (hgl : gl ≤ 50) (hgb : ∀ k, (Value.slice ga gl gc).ownBlock = some k → G.map Value.bool = [] ∨ k < w.heap.size) :
    Calls Try.prog 3 #[.int .i64 (n : Int), .slice a ln c, .slice ga gl gc] w fun e w' => e = .returned (.bool true) ∧ Mod (fun _ => False) w w' := by
  have y0 : decide ((n : Int) < 0) = false := by simp
  have y1 : decide ((25 : Int) < (n : Int)) = false := by simp; omega
  have y2 : decide ((80 : Int) < (ln : Int)) = false := by simp; omega
  have y2n : decide (80 < ln) = false := by simp; omega
  have y3 : decide ((50 : Int) < (gl : Int)) = false := by simp; omega
  have y3n : decide (50 < gl) = false := by simp; omega
  have HG := Lib.hid (And.intro hG (And.intro hg hgb))
  clear hG hg hgb
  have HMD := Lib.hid (made15_any w n (by omega) a ln c T hT hr (by omega))
  have HW := Lib.hid (net15 n T)
  have hle := arcsR_len (n : Int) T
  have hle0 : (putAllN (arcsR (n : Int) T)).length ≤ 80 := by
    have h := (putAll_ok (arcsR (n : Int) T) [] (NetOk.nil n) (arcsR_may T)).2
    unfold putAllN
    simp only [List.length_nil] at h; omega
  obtain ⟨L, hL⟩ : ∃ L, putAllN (arcsR (n : Int) T) = L := ⟨_, rfl⟩
  rw [hL] at HMD HW hle0
  have HLE : Hid (L.length ≤ 10000) := Lib.hid (by omega)
  obtain ⟨D, hD⟩ := DOk.ex n (by omega) L
  have HD := Lib.hid hD
  clear hL hT hr hle hle0 hD
  go_enter Try.func3, Try.ntmps3
  go_wp2_with fail
  refine HMD.out.mono ?_
  rintro e w1 ⟨q, F, m, rfl, hnt, hrn, hF, hmz, hm⟩
  have HN := Lib.hid (And.intro hnt hrn)
  have HM1 := Lib.hid hm
  clear hnt hrn hF hmz hm HMD
  go_wp2_with fail
  go_loopw [9] (fun i wr => ∃ k : Nat, k ≤ n ∧ i = .int .i64 k ∧ Mod (fun _ => False) w1 wr) (fun i _ => n - (intOf i).toNat)
  case atStart => exact ⟨0, by omega, rfl, Mod.refl _ _⟩
  case round =>
    obtain ⟨k, hk, rfl, hm⟩ := hrel
    obtain ⟨wo, hwo⟩ : ∃ x : World, x = wr := ⟨_, rfl⟩
    subst hwo
    have HM := Lib.hid hm
    clear hm
    have HN2 := Lib.hid (And.intro (HN.out.1.later HM.out) (HN.out.2.later HM.out))
    by_cases hlt : k < n
    case pos =>
      have z0 : decide ((k : Int) < (n : Int)) = true := by simp; omega
      go_wp2_with fail
      refine (rk_sc HN2.out.1 HW.out HD.out k hlt).mono ?_
      rintro e w2 ⟨a2, c2, rfl, ho2, hm2⟩
      have HO2 := Lib.hid (And.intro ho2 hm2)
      clear ho2 hm2
      go_wp2_with fail
      refine (rn_sc (HN2.out.2.later HO2.out.2) HN2.out.1.ok HW.out (by omega) HLE.out HD.out k).mono ?_
      rintro e w3 ⟨a3, c3, rfl, ho3, hm3⟩
      have HO3 := Lib.hid (And.intro ho3 (HO2.out.2.of2 hm3))
      have HR2 := Lib.hid ((Rd.ofOwn HO2.out.1).keep hm3 (fun _ _ e => e))
      clear ho3 hm3
      have hsl : (scR D L (k : Int)).length ≤ 1000000 := by
        have h1 := scI_len D L (k : Int) (inL L (k : Int))
        have h2 := inL_len HN2.out.1.ok (k : Int)
        have h3 := outL_len HN2.out.1.ok (k : Int)
        have h4 := Nat.mul_le_mul h2 h3
        have h5 : n * n ≤ 25 * 25 := Nat.mul_le_mul h25 h25
        have h6 : (scR D L (k : Int)).length = (scI D L (k : Int) (inL L (k : Int))).length := rfl
        omega
      have HSM := Lib.hid (same13_any w3 (scR D L (k : Int)) a2 (scR D L (k : Int)).length c2 a3 c3 rfl hsl HR2.out (Rd.ofOwn HO3.out.1))
      obtain ⟨ns, hns⟩ : ∃ y, (scR D L (k : Int)).length = y := ⟨_, rfl⟩
      rw [hns] at HSM ⊢
      clear hns hsl
      go_wp2_with fail
      refine HSM.out.mono ?_
      rintro e w4 ⟨rfl, hm4⟩
      have HM4 := Lib.hid (HO3.out.2.of2 hm4)
      clear hm4 HSM
      go_wp2_with fail
      refine (rk_worth (HN2.out.1.later HM4.out) HW.out HD.out k hlt).mono ?_
      rintro e w5 ⟨rfl, hm5⟩
      obtain ⟨wt, hwt⟩ : ∃ y, wthR D L (k : Int) = y := ⟨_, rfl⟩
      rw [hwt]
      have HWT := Lib.hid hwt
      have HM5 := Lib.hid (HM4.out.of2 hm5)
      clear hm5 hwt
      go_wp2_with fail
      refine (rn_worth (HN2.out.2.later HM5.out) HN2.out.1.ok HW.out (by omega) HLE.out HD.out k).mono ?_
      rintro e w6 ⟨rfl, hm6⟩
      rw [HWT.out]
      have HM6 := Lib.hid (HM5.out.of2 hm6)
      clear hm6
      have z1 : (wt == wt) = true := by simp
      go_wp2_with fail
      go_roundw
      case rel => exact ⟨k + 1, hlt, by go_num, HM.out.of2 HM6.out⟩
      case measure => simp [intOf]; omega
    case neg =>
      have z0 : decide ((k : Int) < (n : Int)) = false := by simp; omega
      go_wp2_with fail
      refine (rk_first HN2.out.1 HW.out HD.out ga gl gc G HG.out.1 ((HG.out.2.1.keep HM1.out (fun _ _ e => e)).keep HM.out (fun _ _ e => e)) (by omega) (fun k hk => (HG.out.2.2 k hk).imp id (fun h9 => by have := HM1.out.size; have := HM.out.size; omega))).mono ?_
      rintro e w2 ⟨rfl, hm2⟩
      obtain ⟨fi, hfi⟩ : ∃ y, (firN (fun v => wthR D L (v : Int)) (gonB G) n).1 = y := ⟨_, rfl⟩
      rw [hfi]
      have HFI := Lib.hid hfi
      have HM2 := Lib.hid (HM.out.of2 hm2)
      clear hm2 hfi
      go_wp2_with fail
      refine (rn_first (HN.out.2.later HM2.out) HN2.out.1.ok HW.out (by omega) HLE.out HD.out ga gl gc G HG.out.1 ((HG.out.2.1.keep HM1.out (fun _ _ e => e)).keep HM2.out (fun _ _ e => e)) (by omega)).mono ?_
      rintro e w3 ⟨rfl, hm3⟩
      rw [HFI.out]
      have HM3 := Lib.hid (HM2.out.of2 hm3)
      clear hm3
      have z1 : (fi == fi) = true := by simp
      go_wp2_with fail
      refine (awake15_any _).mono ?_
      rintro e w9 ⟨rfl, hm9⟩
      go_wp2_with fail
      go_ret
      exact ⟨rfl, (HM1.out.of2 HM3.out).of2 hm9⟩
theorem rktells_law (w : World) (nv : Int) (_ : (Lit.int .i64 nv).wf = true) (a : Option Addr) (ln c : Nat) (T : List T3) (ok : (encSlice enc3).ok w (.slice a ln c, T)) (ga : Option Addr) (gl gc : Nat) (G : List Bool) (ok2 : (encSlice encBool).ok w (.slice ga gl gc, G)) :
    Calls Try.prog 3 #[.int .i64 nv, .slice a ln c, .slice ga gl gc] w fun e w' => e = .returned (.bool true) ∧ Below w.heap.size w w' := by
  obtain ⟨hT, hr⟩ := ok_t3 ok
  obtain ⟨hG, hg⟩ := ok_bools15 ok2
  suffices h : Calls Try.prog 3 #[.int .i64 nv, .slice a ln c, .slice ga gl gc] w fun e w' => e = .returned (.bool true) ∧ Mod (fun _ => False) w w' from
    h.mono fun e w' h => ⟨h.1, h.2.below (Nat.le_refl _) (fun _ e => e.elim)⟩
  by_cases hno : ¬ (0 ≤ nv ∧ nv ≤ 25 ∧ ln ≤ 80 ∧ gl ≤ 50)
  case pos =>
    clear hr hT ok hg hG ok2
    have hend : ∀ (b0 b1 b2 b3 : Bool), decide (nv < 0) = b0 → decide (25 < nv) = b1 → decide (80 < (ln : Int)) = b2 → decide (50 < (gl : Int)) = b3 → (b0 || b1 || b2 || b3) = true →
        Calls Try.prog 3 #[.int .i64 nv, .slice a ln c, .slice ga gl gc] w fun e w' => e = .returned (.bool true) ∧ Mod (fun _ => False) w w' := by
      intro b0 b1 b2 b3 hc0 hc1 hc2 hc3 hbb
      clear hno
      cases b0
      · skip
        cases b1
        · skip
          cases b2
          · skip
            cases b3
            · cases hbb
            · clear hbb 
              go_enter Try.func3, Try.ntmps3
              go_wp2_with fail
              refine (awake15_any _).mono ?_
              rintro e w9 ⟨rfl, hm9⟩
              go_wp2_with fail
              go_ret
              exact ⟨rfl, hm9⟩
          · clear hbb hc3
            go_enter Try.func3, Try.ntmps3
            go_wp2_with fail
            refine (awake15_any _).mono ?_
            rintro e w9 ⟨rfl, hm9⟩
            go_wp2_with fail
            go_ret
            exact ⟨rfl, hm9⟩
        · clear hbb hc2 hc3
          go_enter Try.func3, Try.ntmps3
          go_wp2_with fail
          refine (awake15_any _).mono ?_
          rintro e w9 ⟨rfl, hm9⟩
          go_wp2_with fail
          go_ret
          exact ⟨rfl, hm9⟩
      · clear hbb hc1 hc2 hc3
        go_enter Try.func3, Try.ntmps3
        go_wp2_with fail
        refine (awake15_any _).mono ?_
        rintro e w9 ⟨rfl, hm9⟩
        go_wp2_with fail
        go_ret
        exact ⟨rfl, hm9⟩
    refine hend _ _ _ _ rfl rfl rfl rfl ?_
    simp only [Bool.or_eq_true, decide_eq_true_eq]
    omega
  case neg =>
    have hyes := Decidable.not_not.1 hno
    obtain ⟨n, rfl⟩ := Int.eq_ofNat_of_zero_le (show 0 ≤ nv by omega)
    exact rktells_all w n (by omega) a ln c T hT hr (by omega) ga gl gc G hG hg (by omega) (rd_lt hg)
end Go.Proofs.Ytepnlijdnabllaa
