/- Law 10's awake by contract. -/
import Derived.Test.YthlpednakhjmhaaSet7
import Derived.Deep.DeepCutAuto
import Derived.Deep.CutBlock
namespace Go.Proofs.Ythlpednakhjmhaa
open Go.RowKit Mile
set_option maxRecDepth 100000

set_option maxHeartbeats 16000000 in
theorem awake10_any (w : World) : Calls Try.prog 7 #[] w fun e w' => e = .returned (.bool true) ∧ Mod (fun _ => False) w w' := by
  obtain ⟨iB, hiB, hzB, hsB, hbB⟩ := info_parts infoBl
  go_enter Try.func7, Try.ntmps7
  go_wp2_with fail
  refine (snew_any 3 (by omega) w).mono ?_
  rintro e wq0 ⟨p, rfl, hpb, hso, hm0⟩
  have HM0 := Lib.hid hm0
  have HPB := Lib.hid hpb
  clear hm0 hpb
  have hR : List.replicate 512 (0 : Int) = [0, 0, 0] ++ List.replicate 509 0 := rfl
  rw [hR] at hso
  clear hR
  obtain ⟨R, hRR⟩ : ∃ R, List.replicate 509 (0 : Int) = R := ⟨_, rfl⟩
  rw [hRR] at hso
  clear hRR
  have HSO := Lib.hid hso
  clear hso
  have HS : Hid (EvP p (Mod (fun k => k = p) wq0) wq0) := Lib.hid (EvP.mod p wq0)
  go_wp2_with fail
  refine (close_as p 3 _ _ (HSO.out.keep (Mod.alloc (fun _ => False) _ _) (fun e => e)) _ _ _ [2, 1, 2] (xr_lit HSO.out.blk.lt 3 [2, 1, 2] 3 _ rfl rfl (by omega)) (by omega) (by decide) 5 (by omega) (by omega) [1, 2] (srtI_eq (by show List.Perm [1, 2] [2, 1]; decide) (by decide)) 2 rfl ([0, 5, 5] ++ R) rfl).mono ?_
  rintro e wq1 ⟨xa1, xc1, rfl, hrr, hsn, hmm⟩
  clear HSO
  have HSO := Lib.hid hsn
  replace HS := Lib.hid (HS.out.step ((Mod.up (Mod.alloc (fun _ => False) _ _)).ofP hmm))
  clear hmm hsn
  replace HS := Lib.hid ((EvP.xr hrr).and HS.out)
  clear hrr
  go_wp2_with fail
  refine (close_no p 3 _ _ (HSO.out.keep (Mod.alloc (fun _ => False) _ _) (fun e => e)) _ 1 _ [3] rfl (Rd.lit 3 [.int .i64 3] (0, 0) _ 1 rfl rfl (by decide)) (by omega) 5 (by decide)).mono ?_
  rintro e w' ⟨rfl, hw⟩
  rw [← hw]
  clear hw
  obtain ⟨wq2, hWn⟩ : ∃ W, World.alloc wq1 (.cells #[.int .i64 3] 3) = W := ⟨_, rfl⟩
  rw [hWn]
  have hmm : Mod (fun _ => False) wq1 wq2 := by rw [← hWn]; exact Mod.alloc _ _ _
  have HSO1 := Lib.hid (HSO.out.keep hmm (fun e => e))
  clear HSO
  have HSO := HSO1
  clear HSO1
  replace HS := Lib.hid (HS.out.step (Mod.up hmm))
  clear hmm hWn
  go_wp2_with fail
  refine (close_as p 3 _ _ (HSO.out.keep (Mod.alloc (fun _ => False) _ _) (fun e => e)) _ _ _ [2] (xr_lit HSO.out.blk.lt 3 [2] 1 _ rfl rfl (by omega)) (by omega) (by decide) 7 (by omega) (by omega) [] (srtI_eq (by show List.Perm [] []; decide) (by decide)) 0 rfl ([0, 5, 7] ++ R) rfl).mono ?_
  rintro e wq3 ⟨xa2, xc2, rfl, hrr, hsn, hmm⟩
  clear HSO
  have HSO := Lib.hid hsn
  replace HS := Lib.hid (HS.out.step ((Mod.up (Mod.alloc (fun _ => False) _ _)).ofP hmm))
  clear hmm hsn
  clear hrr
  go_wp2_with fail
  refine (lapse_as p 3 _ _ HSO.out 4 [] rfl [] (srtI_eq (by show List.Perm [] []; decide) (by decide)) 0 rfl ([0, 5, 7] ++ R) rfl).mono ?_
  rintro e wq4 ⟨xa3, xc3, rfl, hrr, hsn, hmm⟩
  clear HSO
  have HSO := Lib.hid hsn
  replace HS := Lib.hid (HS.out.step hmm)
  clear hmm hsn
  clear hrr
  go_wp2_with fail
  refine (lapse_as p 3 _ _ HSO.out 5 [1] rfl [1] (srtI_eq (by show List.Perm [1] [1]; decide) (by decide)) 1 rfl ([0, 0, 7] ++ R) rfl).mono ?_
  rintro e wq5 ⟨xa4, xc4, rfl, hrr, hsn, hmm⟩
  clear HSO
  have HSO := Lib.hid hsn
  replace HS := Lib.hid (HS.out.step hmm)
  clear hmm hsn
  replace HS := Lib.hid ((EvP.xr hrr).and HS.out)
  clear hrr
  go_wp2_with fail
  refine (mask_any p 3 _ _ HSO.out).mono ?_
  rintro e wq6 ⟨gm, rfl, hgm, hom, hmm⟩
  have hmr := (Rd.ofOwn hom)
  have hgp : gm ≠ p := by have := HSO.out.blk.lt; omega
  clear hom hgm
  have HSO1 := Lib.hid (HSO.out.keep hmm (fun e => e))
  clear HSO
  have HSO := HSO1
  clear HSO1
  replace HS := Lib.hid (HS.out.step (Mod.up hmm))
  clear hmm
  have k1 := hmr.elem (j := 1) (u := .bool false) rfl
  have k2 := hmr.elem (j := 2) (u := .bool true) rfl
  replace HS := Lib.hid (EvP.and (Q := fun W => W.cell? ⟨gm, 1, none⟩ = some (.bool false) ∧ W.cell? ⟨gm, 2, none⟩ = some (.bool true)) (fun W m => ⟨m.cell (p := ⟨gm, 1, none⟩) k1 hgp, m.cell (p := ⟨gm, 2, none⟩) k2 hgp⟩) HS.out)
  clear hmr k1 k2
  go_wp2_with fail
  refine (open_as p 3 _ _ (HSO.out.keep (Mod.alloc (fun _ => False) _ _) (fun e => e)) _ _ _ [0, 2] (xr_lit HSO.out.blk.lt 3 [0, 2] 2 _ rfl rfl (by omega)) (by omega) (by decide) [2] (srtI_eq (by show List.Perm [2] [2]; decide) (by decide)) 1 rfl ([0, 0, 0] ++ R) rfl).mono ?_
  rintro e wq7 ⟨xa5, xc5, rfl, hrr, hsn, hmm⟩
  clear HSO
  have HSO := Lib.hid hsn
  replace HS := Lib.hid (HS.out.step ((Mod.up (Mod.alloc (fun _ => False) _ _)).ofP hmm))
  clear hmm hsn
  replace HS := Lib.hid ((EvP.xr hrr).and HS.out)
  clear hrr
  go_wp2_with fail
  refine (close_nil none 0 0 1 _).mono ?_
  rintro e w' ⟨rfl, rfl⟩
  go_wp2_with fail
  refine (ints_as _ xa1 2 xc1 [1, 2] rfl (Rd.alloc ((HS.out.now).2.2.2.1).rd _) _ 2 2 [1, 2] rfl (Rd.lit 3 [.int .i64 1, .int .i64 2] (0, 0) _ 2 rfl rfl (by decide)) (by omega) true (by decide)).mono ?_
  rintro e wq8 ⟨rfl, hmm0⟩
  have hmm := (Mod.alloc (fun _ => False) wq7 _).of2 hmm0
  clear hmm0
  have HSO1 := Lib.hid (HSO.out.keep hmm (fun e => e))
  clear HSO
  have HSO := HSO1
  clear HSO1
  replace HS := Lib.hid (HS.out.step (Mod.up hmm))
  clear hmm
  go_wp2_with fail
  refine (ints_as _ xa4 1 xc4 [1] rfl (Rd.alloc ((HS.out.now).2.2.1).rd _) _ 1 1 [1] rfl (Rd.lit 3 [.int .i64 1] (0, 0) _ 1 rfl rfl (by decide)) (by omega) true (by decide)).mono ?_
  rintro e wq9 ⟨rfl, hmm0⟩
  have hmm := (Mod.alloc (fun _ => False) wq8 _).of2 hmm0
  clear hmm0
  have HSO1 := Lib.hid (HSO.out.keep hmm (fun e => e))
  clear HSO
  have HSO := HSO1
  clear HSO1
  replace HS := Lib.hid (HS.out.step (Mod.up hmm))
  clear hmm
  have hk := (HS.out.now).2.1
  have hk1 := hk.1
  have hk2 := hk.2
  clear hk
  go_wp2_with fail
  refine (ints_as _ xa5 1 xc5 [2] rfl (Rd.alloc ((HS.out.now).1).rd _) _ 1 1 [2] rfl (Rd.lit 3 [.int .i64 2] (0, 0) _ 1 rfl rfl (by decide)) (by omega) true (by decide)).mono ?_
  rintro e wq10 ⟨rfl, hmm0⟩
  have hmm := (Mod.alloc (fun _ => False) wq9 _).of2 hmm0
  clear hmm0
  have HSO1 := Lib.hid (HSO.out.keep hmm (fun e => e))
  clear HSO
  have HSO := HSO1
  clear HSO1
  replace HS := Lib.hid (HS.out.step (Mod.up hmm))
  clear hmm
  clear hk1 hk2
  go_wp2_with fail
  refine (closed_any p 3 _ _ HSO.out 2).mono ?_
  rintro e wq11 ⟨rfl, hmm⟩
  have HSO1 := Lib.hid (HSO.out.keep hmm (fun e => e))
  clear HSO
  have HSO := HSO1
  clear HSO1
  replace HS := Lib.hid (HS.out.step (Mod.up hmm))
  clear hmm
  rw [show closedB ([0, 0, 0] ++ R) 3 2 = false from rfl]
  go_wp2_with fail
  refine (all_any p 3 _ _ HSO.out).mono ?_
  rintro e wq12 ⟨v, rfl, hoa, hmm⟩
  rw [show allK ([0, 0, 0] ++ R) 3 = [] from rfl] at hoa
  obtain ⟨al, cl, rfl⟩ := own_form hoa
  clear hoa
  have HSO1 := Lib.hid (HSO.out.keep hmm (fun e => e))
  clear HSO
  have HSO := HSO1
  clear HSO1
  replace HS := Lib.hid (HS.out.step (Mod.up hmm))
  clear hmm
  rw [show (([] : List (Int × Int)).length) = 0 from rfl]
  go_wp2_with fail
  refine (snew_no (-1) (by omega) _).mono ?_
  rintro e w' ⟨rfl, rfl⟩
  go_wp2_with fail
  refine (closed_nil 0 _).mono ?_
  rintro e wq13 ⟨rfl, hmm⟩
  have HSO1 := Lib.hid (HSO.out.keep hmm (fun e => e))
  clear HSO
  have HSO := HSO1
  clear HSO1
  replace HS := Lib.hid (HS.out.step (Mod.up hmm))
  clear hmm
  go_wp2_with fail
  go_ret
  exact ⟨rfl, HM0.out.old ((HS.out.now).2.2.2.2) (fun i hi => by rw [hi]; exact HPB.out)⟩
end Go.Proofs.Ythlpednakhjmhaa
