/- Law 17's awake by contract; what the laws' levels are. -/
import Derived.Test.YtjjedebjbgpimaaGreatLaw17
import Derived.Test.YtjjedebjbgpimaaGreatRUn2
import Derived.Test.YtjjedebjbgpimaaGreatLv6
import Derived.Test.YtjjedebjbgpimaaGreatInts
namespace Go.Proofs.YtjjedebjbgpimaaGreat
open Go.RowKit Mile
set_option maxRecDepth 100000
theorem net17_m (n : Nat) (T : List T3) : ∀ a ∈ net17 n T, a.m = -1 := fun a ha => (net17_in n T a ha).1
theorem bAt_in17 {P : List Ar → Nat → Int → List Int} {n : Nat} {L : List Ar} (hok : NetOk n L) : ∀ a ∈ (bAt n P L n).T, a.m < 0 → a ∈ L := fun a ha hm => by
  rcases bAt_half P hok n (Nat.le_refl n) a ha with h | ⟨j, _, h, _⟩
  · exact h
  · omega
theorem aw17_arc {P : List Ar → Nat → Int → List Int} : findN (bAt 2 P la17 2).T 0 1 = some ⟨0, 1, 1, -1⟩ ∧ findN (bAt 2 P la17 2).T 1 0 = none := by
  have hb := (bAt_ok (n := 2) P la17_ok 2 (Nat.le_refl _)).tok
  have hh := bAt_half P la17_ok 2 (Nat.le_refl 2)
  constructor
  · obtain ⟨z, hz, z1, z2, z3, z4⟩ := bAt_own (n := 2) P (L := la17) 2 (y := ⟨0, 1, 1, -1⟩) (by unfold la17; simp)
    simp only at z1 z2 z3
    by_cases hm : z.m < 0
    · obtain rfl := z4 hm
      exact findN_some hb.sort hz
    · rcases hh z hz with h | ⟨j, _, hj, ⟨p, hp, q, hq, g1, g2, g3, g4, g5⟩, _⟩
      · unfold la17 at h
        rw [List.mem_singleton] at h
        rw [h] at hm; simp at hm
      · have m1 := hb.may p hp
        have m2 := hb.may q hq
        unfold mayA at m1 m2
        omega
  · refine findN_none fun a ha e => ?_
    rcases hh a ha with h | ⟨j, _, hj, ⟨p, hp, q, hq, g1, g2, g3, g4, g5⟩, _⟩
    · unfold la17 at h
      rw [List.mem_singleton] at h
      rw [h] at e
      simp at e
    · have m1 := hb.may p hp
      have m2 := hb.may q hq
      unfold mayA at m1 m2
      omega
set_option maxHeartbeats 8000000 in
theorem awake17_any (w : World) : Calls Tryz.prog 31 #[] w fun e w' => e = .returned (.bool true) ∧ Mod (fun _ => False) w w' := by
  obtain ⟨P, hP⟩ := pick17 2 (by omega)
  have HMD := Lib.hid (fun W a c hr => built17_any W 2 (by omega) a 1 c [(0, 1, 0)] rfl hr (by omega) P hP)
  obtain ⟨a01, a10⟩ := aw17_arc (P := P)
  have htok := (bAt_ok (n := 2) P la17_ok 2 (Nat.le_refl _)).tok
  have hun := un_ok (P := P) la17_ok (fun a ha => by unfold la17 at ha; rw [List.mem_singleton] at ha; rw [ha])
  have hin := bAt_in17 (P := P) la17_ok
  unfold Bu17P at HMD
  rw [la17_eq] at HMD
  obtain ⟨T, hT⟩ : ∃ y, (bAt 2 P la17 2).T = y := ⟨_, rfl⟩
  obtain ⟨V, hV⟩ : ∃ y, (bAt 2 P la17 2).V = y := ⟨_, rfl⟩
  rw [hT, hV] at HMD hun
  rw [hT] at a01 a10 htok hin
  have w0 : (Lit.int .i64 0).wf = true := (i64_wf _).2 (by omega)
  have w1 : (Lit.int .i64 1).wf = true := (i64_wf _).2 (by omega)
  have hu01 : unL T 3 0 1 = some [0, 1] := by unfold unL; rw [a01]; simp
  have H01 := Lib.hid (fun (W : World) (p : Nat) (F : Nat → Prop) (h : LO W p 2 T V F) => (uarc_any h (by omega) htok la17_ok hun (by omega) hin 0 1 ⟨w0, w1⟩).mono (R' := fun e w' => ∃ ax cx, e = .returned (.tuple #[.slice ax 2 cx, .int .i64 0]) ∧ Rd w' 1 (.slice ax 2 cx) 2 ([0, 1].map (Value.int .i64)) ∧ Mod (fun _ => False) W w') (fun e w' h => by
    rcases h with ⟨r, ax, cx, h1, _, _, rfl, h2, h3⟩ | ⟨h1, _⟩
    · rw [hu01] at h1; cases h1; exact ⟨ax, cx, rfl, Rd.ofOwn h2, h3⟩
    · rw [hu01] at h1; cases h1))
  have H10 := Lib.hid (fun (W : World) (p : Nat) (F : Nat → Prop) (h : LO W p 2 T V F) => (uarc_any h (by omega) htok la17_ok hun (by omega) hin 1 0 ⟨w1, w0⟩).mono (R' := fun e w' => e = .returned (.tuple #[.slice none 0 0, .int .i64 4]) ∧ Mod (fun _ => False) W w') (fun e w' h => by
    rcases h with ⟨r, ax, cx, h1, _⟩ | ⟨_, h1⟩
    · rw [unL_no a10] at h1; cases h1
    · exact h1))
  have HR1 := Lib.hid (fun (W : World) (p : Nat) (F : Nat → Prop) (h : LO W p 2 T V F) (a : Option Addr) (c : Nat) (hr : Rd W 1 (.slice a 1 c) 1 ([1].map (Value.int .i64))) => (urowp_any h (by omega) htok la17_ok hun (by omega) hin a 1 c [1] rfl hr (by omega) (fun x hx => by rw [List.mem_singleton] at hx; rw [hx]; exact w1)).mono (R' := fun e w' => ∃ ax cx, e = .returned (.tuple #[.slice ax 1 cx, .int .i64 0]) ∧ Rd w' 1 (.slice ax 1 cx) 1 ([1].map (Value.int .i64)) ∧ Mod (fun _ => False) W w') (fun e w' h => by
    rcases h with ⟨o, ax, cx, h1, _, rfl, h2, h3⟩ | ⟨h1, _⟩
    · cases h1; exact ⟨ax, cx, rfl, h2, h3⟩
    · cases h1))
  have HR0 := Lib.hid (fun (W : World) (p : Nat) (F : Nat → Prop) (h : LO W p 2 T V F) => (urowp_any h (by omega) htok la17_ok hun (by omega) hin none 0 0 [] rfl (Rd.ofOwn (World.ownsRow_nil _ 0 3 1)) (by omega) (fun x hx => by cases hx)).mono (R' := fun e w' => ∃ ax cx, e = .returned (.tuple #[.slice ax 0 cx, .int .i64 0]) ∧ Mod (fun _ => False) W w') (fun e w' h => by
    rcases h with ⟨o, ax, cx, h1, _, rfl, h2, h3⟩ | ⟨h1, _⟩
    · cases h1; exact ⟨ax, cx, rfl, h3⟩
    · cases h1))
  clear hP a01 a10 htok hun hin hT hV w0 w1 hu01
  go_enter Tryz.func31, Tryz.ntmps31
  go_wp2_with fail
  refine (HMD.out _ _ 1 (by exact Rd.litN 75 3 [.int .i64 0, .int .i64 1, .int .i64 0] (0, 0) _ 1 (by first | rfl | simp) rfl (by decide))).mono ?_
  rintro e w1 ⟨p, F, p2, tq, rd, m, rfl, hlo, _, _, hm⟩
  have HL := Lib.hid hlo
  have HM1 : Hid (Mod (fun _ => False) w w1) := Lib.hid ((Mod.alloc _ _ _).of2 hm)
  clear hlo hm
  go_wp2_with fail
  refine (H01.out _ p F HL.out).mono ?_
  rintro e w2 ⟨a2, c2, rfl, hr2, hm2⟩
  have HR2 := Lib.hid hr2
  have HM2 := Lib.hid hm2
  clear hr2 hm2
  go_wp2_with fail
  refine (H10.out _ p F (HL.out.later HM2.out)).mono ?_
  rintro e w3 ⟨rfl, hm3⟩
  have HM3 := Lib.hid (HM2.out.of2 hm3)
  have HR3 := Lib.hid (HR2.out.keep hm3 (fun _ _ e => e))
  clear hm3
  go_wp2_with fail
  refine (HR1.out _ p F (HL.out.later (HM3.out.of2 (Mod.alloc _ _ _))) _ 1 (Rd.lit 3 [.int .i64 1] (0, 0) _ 1 rfl rfl (by decide))).mono ?_
  rintro e w4 ⟨a4, c4, rfl, hr4, hm4⟩
  have HM4 := Lib.hid ((HM3.out.of2 (Mod.alloc (fun _ => False) w3 _)).of2 hm4)
  have HR4 := Lib.hid hr4
  have HR5 := Lib.hid ((HR3.out.alloc _).keep hm4 (fun _ _ e => e))
  clear hm4 hr4
  go_wp2_with fail
  refine (HR0.out _ p F (HL.out.later HM4.out)).mono ?_
  rintro e w5 ⟨a5, c5, rfl, hm5⟩
  have HM5 := Lib.hid (HM4.out.of2 hm5)
  have HR6 := Lib.hid (HR4.out.keep hm5 (fun _ _ e => e))
  have HR7 := Lib.hid (HR5.out.keep hm5 (fun _ _ e => e))
  clear hm5
  go_wp2_with fail
  refine (uarc_nil _ _ _).mono ?_
  rintro e w6 ⟨rfl, hm6⟩
  have HM6 := Lib.hid (HM5.out.of2 hm6)
  have HR8 := Lib.hid (HR6.out.keep hm6 (fun _ _ e => e))
  have HR9 := Lib.hid (HR7.out.keep hm6 (fun _ _ e => e))
  clear hm6
  go_wp2_with fail
  refine (ints_any _ a2 2 c2 [0, 1] rfl (HR9.out.alloc _) _ 2 2 [0, 1] rfl (Rd.lit 3 [.int .i64 0, .int .i64 1] (0, 0) _ 2 rfl rfl (by decide)) (by omega)).mono ?_
  rintro e w7 ⟨rfl, kd, hkd⟩
  have HM7 := Lib.hid (show Mod (fun _ => False) w6 w7 by rw [hkd]; exact (Mod.alloc _ _ _).of2 (Mod.drewN _ _ _))
  clear hkd
  go_wp2_with fail
  refine (ints_any _ a4 1 c4 [1] rfl ((HR8.out.keep HM7.out (fun _ _ e => e)).alloc _) _ 1 1 [1] rfl (Rd.lit 3 [.int .i64 1] (0, 0) _ 1 rfl rfl (by decide)) (by omega)).mono ?_
  rintro e w8 ⟨rfl, kd, hkd⟩
  have HM8 := Lib.hid (show Mod (fun _ => False) w7 w8 by rw [hkd]; exact (Mod.alloc _ _ _).of2 (Mod.drewN _ _ _))
  clear hkd
  go_wp2_with fail
  go_ret
  exact ⟨rfl, (HM1.out.of2 (HM6.out.of2 HM7.out)).of2 HM8.out⟩
end Go.Proofs.YtjjedebjbgpimaaGreat
