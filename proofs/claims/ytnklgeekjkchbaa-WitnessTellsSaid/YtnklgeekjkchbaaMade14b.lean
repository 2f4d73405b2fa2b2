/- Law 14's made, by contract, with both nets apart. -/
import Derived.Test.YtnklgeekjkchbaaKMd
namespace Go.Proofs.Ytnklgeekjkchbaa
open Go.RowKit Mile
set_option maxRecDepth 100000
set_option maxHeartbeats 8000000 in
theorem made14_ap (w : World) (n : Nat) (hn : n ≤ 512) (a : Option Addr) (ln c : Nat) (T : List T3) (hT : T.length = ln) (hr : Rd w 3 (.slice a ln c) ln (T.flatMap c3T)) (hb : ln ≤ 1000) :
    Calls Try.prog 31 #[.int .i64 (n : Int), .slice a ln c] w fun e w' => ∃ q F m, e = .returned (.tuple #[.pointer (some ⟨q, 0, none⟩), .pointer (some ⟨m, 0, none⟩)]) ∧ NT w' q n (putAllN (arcsR (n : Int) T)) F ∧ RN w' m n (putAllN (arcsR (n : Int) T)) ∧ (∀ k, F k → w.heap.size ≤ k) ∧ (w.heap.size ≤ m ∧ ∀ k, F k → k ≠ m) ∧ Mod (fun _ => False) w w' := by
  have hok := arcsR_ok hn T
  have hlen := arcsR_len (n : Int) T
  have HAR := Lib.hid (fun W (mm : Mod (fun _ => False) w W) => arcs14_any W n hn a ln c T hT (hr.keep mm (fun _ _ e => e)) hb)
  rw [hT] at hlen
  obtain ⟨A, hA⟩ : ∃ A, arcsR (n : Int) T = A := ⟨_, rfl⟩
  rw [hA] at hok hlen HAR ⊢
  obtain ⟨m, hm⟩ : ∃ m, A.length = m := ⟨_, rfl⟩
  rw [hm] at hlen HAR
  have HOK := Lib.hid hok
  have HLM := Lib.hid hm
  clear hok hT hr hA hm
  go_enter Try.func31, Try.ntmps31
  go_wp2_with fail
  refine (HAR.out w (Mod.refl _ _)).mono ?_
  rintro e w1 ⟨a1, c1, rfl, ho1, hm1⟩
  have HO1 := Lib.hid ho1
  have HM1 := Lib.hid hm1
  clear ho1 hm1
  go_wp2_with fail
  refine (nt_new w1 (n : Int) a1 m c1 A HLM.out (Rd.ofOwn HO1.out) (by omega)).mono ?_
  rintro e w2 ⟨h1, _⟩
  obtain ⟨q, F, rfl, hnt, hnw, hm2⟩ := h1 HOK.out
  rw [Int.toNat_natCast] at hnt
  have HNT := Lib.hid hnt
  have hs1 := HM1.out.size
  have HNW : Hid (∀ k, F k → w.heap.size ≤ k) := Lib.hid (fun k hk => Nat.le_trans hs1 (hnw k hk))
  have HM2 := Lib.hid (HM1.out.of2 hm2)
  clear h1 hnt hnw hm2 hs1
  go_wp2_with fail
  refine (HAR.out w2 HM2.out).mono ?_
  rintro e w3 ⟨a3, c3, rfl, ho3, hm3⟩
  have HO3 := Lib.hid ho3
  have HM3 := Lib.hid hm3
  clear ho3 hm3
  go_wp2_with fail
  refine (rn_new w3 (n : Int) a3 m c3 A HLM.out (Rd.ofOwn HO3.out) (by omega)).mono ?_
  rintro e w4 ⟨h1, _⟩
  obtain ⟨r, rfl, hrn, hrw, hm4⟩ := h1 HOK.out
  rw [Int.toNat_natCast] at hrn
  have HRN := Lib.hid hrn
  have hs3 := (HM2.out.of2 HM3.out).size
  have HRW : Hid (w.heap.size ≤ r ∧ ∀ k, F k → k ≠ r) := Lib.hid ⟨Nat.le_trans hs3 hrw, fun k hk => by have h1 := (HNT.out.later HM3.out).lt k hk; omega⟩
  have HM4 := Lib.hid hm4
  clear h1 hrn hrw hm4 hs3
  go_wp2_with fail
  go_ret2
  exact ⟨q, F, r, rfl, HNT.out.later (HM3.out.of2 HM4.out), HRN.out, HNW.out, HRW.out, (HM2.out.of2 HM3.out).of2 HM4.out⟩
end Go.Proofs.Ytnklgeekjkchbaa
