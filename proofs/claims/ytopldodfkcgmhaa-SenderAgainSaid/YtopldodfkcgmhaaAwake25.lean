/- Law 25's awake by contract. -/
import Derived.Test.YtopldodfkcgmhaaSdL
import Derived.Test.YtopldodfkcgmhaaPlain
import Derived.Test.YtopldodfkcgmhaaOpensBI
namespace Go.Proofs.Ytopldodfkcgmhaa
open Go.RowKit Mile Go.Maps
set_option maxRecDepth 100000
set_option maxHeartbeats 16000000 in
theorem awake25_any (w : World) : Calls Try.prog 7 #[] w fun e w' => e = .returned (.bool true) ∧ Mod (fun _ => False) w w' := by
  go_enter Try.func7, Try.ntmps7
  go_wp2_with fail
  have hnew : Calls Try.prog 8 #[.int .i64 2, .int .i64 2, .int .i64 0] w _ := tmnew_any w 2 2 0 (by omega) (by omega) (by omega) (by omega)
  refine hnew.mono ?_
  clear hnew
  rintro e w1 ⟨tp, rfl, h1, htp, hm1⟩
  have H1 := Lib.hid h1
  have HM1 := Lib.hid hm1
  have HTP := Lib.hid htp
  clear h1 hm1 htp
  go_wp2_with fail
  refine (sdnew_no w1 1 none (.inr rfl)).mono ?_
  rintro e w' ⟨rfl, rfl⟩
  go_wp2_with fail
  have hnew : Calls Try.prog 9 #[.int .i64 1, .pointer (some ⟨tp, 0, none⟩)] w1 _ := sdnew_any w1 1 tp none 2 2 0 [] H1.out (by omega) (by omega)
  refine hnew.mono ?_
  clear hnew
  rintro e w2 ⟨p, rfl, hs, hp, hm2⟩
  have HS2 : Hid (S1 (fun _ => False) w w2 p tp 1 0 false 2 2 0 [] []) := Lib.hid (s1_made hs (Nat.le_trans HM1.out.size hp) HTP.out (HM1.out.of2 hm2))
  clear hs hp hm2 H1
  go_wp2_with fail
  refine (s1_send HS2.out (Mod.alloc (fun _ => False) w2 _) (by decide) (by omega) (by simp) 0 (by omega) [9] 1 rfl _ (Rd.lit 5 [.int .u8 9] (0, 0) _ 1 rfl rfl (by decide)) (by omega) 0 rfl).mono ?_
  rintro e w3 ⟨rfl, hk, _⟩
  have HS3 : Hid (S1 (fun _ => False) w w3 p tp 1 0 false 2 2 0 [⟨0, 2, 0⟩] [[9]]) := Lib.hid (hk _ (Mod.refl _ _))
  clear hk HS2
  go_wp2_with fail
  refine (s1_full HS3.out (Mod.alloc (fun _ => False) w3 _) rfl 0 _).mono ?_
  rintro e w4 ⟨rfl, hk, _⟩
  have HS4 := Lib.hid (hk _ (Mod.refl _ _))
  clear hk HS3
  go_wp2_with fail
  refine (s1_body_at HS4.out (by omega) 0 [9] rfl (by simp) 0 rfl).mono ?_
  rintro e w5 ⟨ab, cb, rfl, hrd, hbk, _, hm5⟩
  have HS5 := Lib.hid (HS4.out.guard hm5 (fun k => (Value.slice ab [(9 : Int)].length cb).ownBlock = some k) hbk)
  have HRD5 := Lib.hid hrd
  clear hrd hbk hm5 HS4
  go_wp2_with fail
  refine (s1_acked HS5.out (by omega) 1 (by omega) (by simp) 1 rfl).mono ?_
  rintro e w6 ⟨rfl, hs, hm⟩
  have HS6 : Hid (S1 (fun k => (Value.slice ab [(9 : Int)].length cb).ownBlock = some k) w w6 p tp 1 1 false 2 2 0 [] []) := Lib.hid hs
  have HRD6 := Lib.hid (HRD5.out.keep hm (fun k hk e => e hk))
  clear hs hm HS5 HRD5
  go_wp2_with fail
  refine (s1_send HS6.out (Mod.alloc (fun _ => False) w6 _) (by decide) (by omega) (by simp) 1 (by omega) [7] 1 rfl _ (Rd.lit 5 [.int .u8 7] (0, 0) _ 1 rfl rfl (by decide)) (by omega) 1 rfl).mono ?_
  rintro e w7 ⟨rfl, hk, hm⟩
  have HS7 : Hid (S1 (fun k => (Value.slice ab [(9 : Int)].length cb).ownBlock = some k) w w7 p tp 1 1 false 2 2 0 [⟨1, 3, 0⟩] [[7]]) := Lib.hid (hk _ (Mod.refl _ _))
  have HRD7 := Lib.hid ((HRD6.out.keep (Mod.alloc (fun _ => False) w6 _) (fun _ _ e => e)).keep hm (fun k hk e => e.2 hk))
  clear hk hm HS6 HRD6
  go_wp2_with fail
  refine (s1_again HS7.out (by simp) 3 (by omega) [] [1] [] rfl rfl rfl).mono ?_
  rintro e w8 ⟨he, hs, hm⟩
  rw [if_neg (by simp)] at he
  subst he
  have HS8 : Hid (S1 (fun k => (Value.slice ab [(9 : Int)].length cb).ownBlock = some k) w w8 p tp 1 1 true 2 2 0 [] [[7]]) := Lib.hid hs
  have HRD8 := Lib.hid (HRD7.out.keep hm (fun k hk e => e hk))
  clear hs hm HS7 HRD7
  go_wp2_with fail
  refine (s1_over HS8.out (Mod.alloc (fun _ => False) w8 _) 4 _).mono ?_
  rintro e w9 ⟨rfl, hw9⟩
  have hm9 : Mod (fun _ => False) w8 w9 := by rw [← hw9]; exact Mod.alloc (fun _ => False) w8 _
  have HS9 := Lib.hid (HS8.out.keep hm9)
  have HRD9 := Lib.hid (HRD8.out.keep hm9 (fun _ _ e => e))
  clear hw9 hm9 HS8 HRD8
  go_wp2_with fail
  refine (sdsend_nil _ 0 _ 1 1).mono ?_
  rintro e w10 ⟨rfl, hw10⟩
  have hm10 : Mod (fun _ => False) w9 w10 := by rw [← hw10]; exact Mod.alloc (fun _ => False) w9 _
  have HS10 := Lib.hid (HS9.out.keep hm10)
  have hrd := HRD9.out.keep hm10 (fun _ _ e => e)
  have k0 := run_strS w10 35 9 5 Try.underlying35 Try.underlying5 Try.underlying9 hrd
  have s9 : (strOf [9]).toList = [9] := by decide +kernel
  clear hw10 hm10 HS9 HRD9 hrd
  simp only [List.length_cons, List.length_nil, Nat.zero_add] at k0 ⊢
  go_wp2_with (first
    | (go_at_call 22; refine (s1_room HS10.out 0 rfl).mono ?_; rintro e w11 ⟨rfl, hs11, _⟩; have HS11 := Lib.hid hs11; clear hs11)
    | (go_at_call 24; refine (s1_seq HS11.out (by omega) 2 rfl).mono ?_; rintro e w12 ⟨rfl, hs12, _⟩; have HS12 := Lib.hid hs12; clear hs12)
    | (go_at_call 15; refine (sdacked_nil _ 1).mono ?_; rintro e w' ⟨rfl, rfl⟩))
  go_ret
  exact ⟨rfl, HS12.out.mod⟩
end Go.Proofs.Ytopldodfkcgmhaa
