/- Law 24's awake by contract. -/
import Derived.Test.YtncjmdpepdfjbaaTm4
import Derived.Test.YtncjmdpepdfjbaaInts
import Derived.Test.YtncjmdpepdfjbaaShp
namespace Go.Proofs.Ytncjmdpepdfjbaa
open Go.RowKit Mile Go.Maps
set_option maxRecDepth 100000
/-- A call that turns the timer alone, seen from a world in which it was not yet there. -/
theorem mod_tm {w a b : World} {p : Nat} {mb : Option Nat} (h : Mod (fun _ => False) w a) (k : Mod (tmF p mb) a b) (hp : ∀ i, tmF p mb i → w.heap.size ≤ i) : Mod (fun _ => False) w b :=
  h.old k (fun i hi => hp i hi)
set_option maxHeartbeats 16000000 in
theorem awake24_any (w : World) : Calls Try.prog 7 #[] w fun e w' => e = .returned (.bool true) ∧ Mod (fun _ => False) w w' := by
  go_enter Try.func7, Try.ntmps7
  go_wp2_with fail
  have hnew : Calls Try.prog 8 #[.int .i64 2, .int .i64 5, .int .i64 1] w _ := tmnew_any w 2 5 1 (by omega) (by omega) (by omega) (by omega)
  refine hnew.mono ?_
  clear hnew
  rintro e w1 ⟨p, rfl, h1, hp, hm1⟩
  have H1 := Lib.hid h1
  have HM1 := Lib.hid hm1
  have HP := Lib.hid hp
  clear h1 hm1 hp
  go_wp2_with fail
  refine (tmnew_no w1 0 5 1 (by omega)).mono ?_
  rintro e w' ⟨rfl, rfl⟩
  go_wp2_with fail
  refine (tstart_any w1 p none 2 5 1 [] H1.out (by simp) 7 10 (by decide) (by omega)).mono ?_
  rintro e w2 ⟨rfl, mb, h2, hmb, _, hm2⟩
  have hF : ∀ i, tmF p mb i → w.heap.size ≤ i := fun i hi => by
    rcases hi with rfl | hi
    · exact HP.out
    · rcases hmb i hi with x | x
      · cases x
      · exact Nat.le_trans HM1.out.size x
  have HF := Lib.hid hF
  have HM2 := Lib.hid (mod_tm HM1.out hm2 (fun i hi => by rcases hi with rfl | hi; · exact HP.out
                                                          · cases hi))
  have H2 : Hid (TM w2 p mb 2 5 1 [⟨7, 12, 0⟩]) := Lib.hid h2
  clear h2 hmb hm2 hF H1
  go_wp2_with fail
  refine (tdue_any w2 p mb 2 5 1 _ H2.out (by simp) 11 (by omega)).mono ?_
  rintro e w3 ⟨a1, c1, a2, c2, rfl, ho1, ho2, h3, hm3⟩
  have HM3 := Lib.hid (mod_tm HM2.out hm3 HF.out)
  have H3 : Hid (TM w3 p mb 2 5 1 [⟨7, 12, 0⟩]) := Lib.hid h3
  have E1 : Hid (againE 1 (dueE [⟨7, 12, 0⟩] 11) = []) := Lib.hid (by rfl)
  have E2 : Hid (overE 1 (dueE [⟨7, 12, 0⟩] 11) = []) := Lib.hid (by rfl)
  rw [E1.out, E2.out]
  clear ho1 ho2 h3 hm3 E1 E2 H2
  go_wp2_with fail
  refine (tdue_any w3 p mb 2 5 1 _ H3.out (by simp) 12 (by omega)).mono ?_
  rintro e w4 ⟨a3, c3, a4, c4, rfl, ho3, ho4, h4, hm4⟩
  have HM4 := Lib.hid (mod_tm HM3.out hm4 HF.out)
  have H4 : Hid (TM w4 p mb 2 5 1 [⟨7, 16, 1⟩]) := Lib.hid h4
  have E1 : Hid (againE 1 (dueE [⟨7, 12, 0⟩] 12) = [7]) := Lib.hid (by rfl)
  have E2 : Hid (overE 1 (dueE [⟨7, 12, 0⟩] 12) = []) := Lib.hid (by rfl)
  rw [E1.out] at ho3
  rw [E1.out, E2.out]
  have hbase4 : ∀ k, (Value.slice a3 [(7 : Int)].length c3).ownBlock = some k → ¬ tmF p mb k := fun k hk e => by have h1 := (ho3.lt k hk).1; have h2 := H3.out.lt k e; omega
  have HB4 := Lib.hid hbase4
  have HO3 := Lib.hid (Rd.ofOwn ho3)
  clear ho3 ho4 h4 hm4 E1 E2 H3 hbase4
  go_wp2_with fail
  refine (tdue_any w4 p mb 2 5 1 _ H4.out (by simp) 15 (by omega)).mono ?_
  rintro e w5 ⟨a5, c5, a6, c6, rfl, ho5, ho6, h5, hm5⟩
  have HM5 := Lib.hid (mod_tm HM4.out hm5 HF.out)
  have H5 : Hid (TM w5 p mb 2 5 1 [⟨7, 16, 1⟩]) := Lib.hid h5
  have E1 : Hid (againE 1 (dueE [⟨7, 16, 1⟩] 15) = []) := Lib.hid (by rfl)
  have E2 : Hid (overE 1 (dueE [⟨7, 16, 1⟩] 15) = []) := Lib.hid (by rfl)
  have HO5 := Lib.hid (HO3.out.keep hm5 HB4.out)
  rw [E1.out, E2.out]
  clear ho5 ho6 h5 hm5 E1 E2 H4 HO3
  go_wp2_with fail
  refine (tdue_any w5 p mb 2 5 1 _ H5.out (by simp) 16 (by omega)).mono ?_
  rintro e w6 ⟨a7, c7, a8, c8, rfl, ho7, ho8, h6, hm6⟩
  have HM6 := Lib.hid (mod_tm HM5.out hm6 HF.out)
  have H6 : Hid (TM w6 p mb 2 5 1 []) := Lib.hid h6
  have E1 : Hid (againE 1 (dueE [⟨7, 16, 1⟩] 16) = []) := Lib.hid (by rfl)
  have E2 : Hid (overE 1 (dueE [⟨7, 16, 1⟩] 16) = [7]) := Lib.hid (by rfl)
  have HO6 := Lib.hid (HO5.out.keep hm6 HB4.out)
  rw [E2.out] at ho8
  rw [E1.out, E2.out]
  have HO8 := Lib.hid (Rd.ofOwn ho8)
  clear ho7 ho8 h6 hm6 E1 E2 H5 HO5
  simp only [List.length_cons, List.length_nil, Nat.zero_add]
  have HO6 : Hid (Rd w6 1 (.slice a3 1 c3) 1 ([7].map (Value.int .i64))) := HO6
  have HO8 : Hid (Rd w6 1 (.slice a8 1 c8) 1 ([7].map (Value.int .i64))) := HO8
  go_upto_region 10 with fail
  (try simp only [List.append])
  go_wp2_with fail
  refine (twait_any w6 p mb 2 5 1 [] H6.out 0 (by decide)).mono ?_
  rintro e w' ⟨rfl, rfl⟩
  rw [show waitN 2 5 (0 : Int).toNat = 2 from rfl]
  go_wp2_with fail
  refine (twait_any w6 p mb 2 5 1 [] H6.out 1 (by decide)).mono ?_
  rintro e w' ⟨rfl, rfl⟩
  rw [show waitN 2 5 (1 : Int).toNat = 4 from rfl]
  go_wp2_with fail
  refine (twait_any w6 p mb 2 5 1 [] H6.out 2 (by decide)).mono ?_
  rintro e w' ⟨rfl, rfl⟩
  rw [show waitN 2 5 (2 : Int).toNat = 5 from rfl]
  go_wp2_with fail
  refine (twait_any w6 p mb 2 5 1 [] H6.out (-1) (by decide)).mono ?_
  rintro e w' ⟨rfl, rfl⟩
  rw [show waitN 2 5 (-1 : Int).toNat = 2 from rfl]
  go_wp2_with fail
  refine (ints_any _ a3 1 c3 [7] rfl (HO6.out.alloc _) _ 1 1 [7] rfl (Rd.lit 3 [.int .i64 7] (0, 0) _ 1 rfl rfl (by decide)) (by omega)).mono ?_
  rintro e w7 ⟨rfl, k7, hk7⟩
  have hm7 : Mod (fun _ => False) w6 w7 := by rw [hk7]; exact (Mod.alloc (fun _ => False) w6 _).of2 (Mod.drewN _ _ _)
  have HM7 := Lib.hid hm7
  clear hk7 hm7
  go_wp2_with fail
  refine (ints_any _ a8 1 c8 [7] rfl ((HO8.out.keep HM7.out (fun _ _ e => e)).alloc _) _ 1 1 [7] rfl (Rd.lit 3 [.int .i64 7] (0, 0) _ 1 rfl rfl (by decide)) (by omega)).mono ?_
  rintro e w8 ⟨rfl, k8, hk8⟩
  have hm8 : Mod (fun _ => False) w6 w8 := by rw [hk8]; exact HM7.out.of2 ((Mod.alloc (fun _ => False) w7 _).of2 (Mod.drewN _ _ _))
  have HM8 := Lib.hid hm8
  clear hk8 hm8
  go_wp2_with fail
  refine (tlen_any _ p mb 2 5 1 [] (H6.out.keep HM8.out (fun _ _ e => e))).mono ?_
  rintro e w' ⟨rfl, rfl⟩
  go_wp2_with fail
  refine (tlen_nil _).mono ?_
  rintro e w' ⟨rfl, rfl⟩
  go_wp2_with fail
  refine (twait_nil _ _).mono ?_
  rintro e w' ⟨rfl, rfl⟩
  go_wp2_with fail
  go_ret
  exact ⟨rfl, HM6.out.of2 HM8.out⟩
end Go.Proofs.Ytncjmdpepdfjbaa
