/- Law 29's awake, by contract. -/
import Derived.Test.YtfdmjnhhgcidbaaTb5
import Derived.Test.YtfdmjnhhgcidbaaTb6
namespace Go.Proofs.Ytfdmjnhhgcidbaa
open Go.RowKit Mile
set_option maxRecDepth 100000
theorem mayC_ok {M : Nat} {es : Nat → TbE} {gr : Nat → Int} {i : Nat} {conn : Int} (hi : i < 16) (h1 : 1 ≤ conn) (h2 : conn ≤ 2147483648) (h3 : gr i < conn) (h4 : (liveN es 16).length < M ∨ es i ≠ none) : mayC M es gr (i : Int) conn = 0 := by
  unfold mayC
  rw [if_neg (by omega), Int.toNat_natCast, if_neg (by omega), if_neg]
  rintro ⟨h5, h6⟩
  rcases h4 with h | h
  · omega
  · exact h h6
theorem mayC_full {M : Nat} {es : Nat → TbE} {gr : Nat → Int} {i : Nat} {conn : Int} (hi : i < 16) (h1 : 1 ≤ conn) (h2 : conn ≤ 2147483648) (h3 : gr i < conn) (h4 : M ≤ (liveN es 16).length) (h5 : es i = none) : mayC M es gr (i : Int) conn = 5 := by
  unfold mayC
  rw [if_neg (by omega), Int.toNat_natCast, if_neg (by omega), if_pos ⟨h4, h5⟩]
theorem mayC_gone {M : Nat} {es : Nat → TbE} {gr : Nat → Int} {i : Nat} {conn : Int} (hi : i < 16) (h1 : 1 ≤ conn) (h2 : conn ≤ 2147483648) (h3 : conn ≤ gr i) : mayC M es gr (i : Int) conn = 6 := by
  unfold mayC
  rw [if_neg (by omega), Int.toNat_natCast, if_pos h3]
set_option maxHeartbeats 16000000 in
theorem awake29_any (w : World) : Calls Try.prog 29 #[] w fun e w' => e = .returned (.bool true) ∧ Mod (fun _ => False) w w' := by
  have hn1 : Calls Try.prog 30 #[.int .i64 1] w _ := tbnew_any w 1 (by omega) (by omega)
  have HN1 := Lib.hid hn1
  clear hn1
  go_enter Try.func29, Try.ntmps29
  go_wp2_with fail
  refine HN1.out.mono ?_
  rintro e w1 ⟨p, rfl, ht1, hp, hm⟩
  have HT1 := Lib.hid ht1
  have HP := Lib.hid hp
  have HM1 := Lib.hid hm
  clear ht1 hp hm HN1
  go_wp2_with fail
  refine (tbnew_no w1 0 (by omega)).mono ?_
  rintro e w' ⟨rfl, rfl⟩
  go_wp2_with fail
  refine (entry_any w1 3 5).mono ?_
  rintro e w2 ⟨b1, ch1, rfl, hb1, hlo, hm⟩
  have HT2 := Lib.hid (HT1.out.later hm)
  have HB1 := Lib.hid hb1
  have HM2 := Lib.hid (HM1.out.of2 hm)
  have hne1 : b1 ≠ p := fun e => by have := HT1.out.blk.lt; omega
  clear hb1 hm hlo HT1
  have ha1 : Calls Try.prog 34 #[.pointer (some ⟨p, 0, none⟩), .pointer (some ⟨b1, 0, none⟩)] w2 _ := tbadd_ok HT2.out b1 3 (by omega) 5 ch1 HB1.out hne1 (mayC_ok (by omega) (by omega) (by omega) (by show (0 : Int) < 5; omega) (.inl (by show ([] : List Nat).length < 1; decide)))
  have HA1 := Lib.hid ha1
  clear ha1
  go_wp2_with fail
  refine HA1.out.mono ?_
  rintro e w3 ⟨rfl, ht3, hm⟩
  have HT3 := Lib.hid ht3
  have HM3 := Lib.hid (HM2.out.old hm (fun k hk => by rw [hk]; exact HP.out))
  clear ht3 hm HA1 HT2
  go_wp2_with fail
  refine (entry_any w3 4 1).mono ?_
  rintro e w4 ⟨b2, ch2, rfl, hb2, _, hm⟩
  have HT4 := Lib.hid (HT3.out.later hm)
  have HB2 := Lib.hid hb2
  have HM4 := Lib.hid (HM3.out.of2 hm)
  clear hb2 hm HT3
  have ha2 := tbadd_no HT4.out b2 4 1 ch2 HB2.out 5 (mayC_full (i := 4) (by omega) (by omega) (by omega) (by show (0 : Int) < 1; omega) (by show 1 ≤ ([3] : List Nat).length; decide) rfl) (by omega)
  have HA2 := Lib.hid ha2
  clear ha2
  go_wp2_with fail
  refine HA2.out.mono ?_
  rintro e w5 ⟨rfl, hm⟩
  have HT5 := Lib.hid (HT4.out.later hm)
  have HM5 := Lib.hid (HM4.out.of2 hm)
  clear hm HT4 HA2 HB2
  go_wp2_with fail
  refine (entry_any w5 3 5).mono ?_
  rintro e w6 ⟨b3, ch3, rfl, hb3, _, hm⟩
  have HT6 := Lib.hid (HT5.out.later hm)
  have HB3 := Lib.hid hb3
  have HM6 := Lib.hid (HM5.out.of2 hm)
  clear hb3 hm HT5
  have ha3 := tbadd_no HT6.out b3 3 5 ch3 HB3.out 6 (mayC_gone (i := 3) (by omega) (by omega) (by omega) (by show (5 : Int) ≤ 5; omega)) (by omega)
  have HA3 := Lib.hid ha3
  clear ha3
  go_wp2_with fail
  refine HA3.out.mono ?_
  rintro e w7 ⟨rfl, hm⟩
  have HT7 := Lib.hid (HT6.out.later hm)
  have HM7 := Lib.hid (HM6.out.of2 hm)
  clear hm HT6 HA3 HB3
  go_wp2_with fail
  refine (entry_any w7 3 6).mono ?_
  rintro e w8 ⟨b4, ch4, rfl, hb4, hlo, hm⟩
  have HT8 := Lib.hid (HT7.out.later hm)
  have HB4 := Lib.hid hb4
  have HM8 := Lib.hid (HM7.out.of2 hm)
  have hne4 : b4 ≠ p := fun e => by have := HT7.out.blk.lt; omega
  clear hb4 hm hlo HT7
  have ha4 : Calls Try.prog 34 #[.pointer (some ⟨p, 0, none⟩), .pointer (some ⟨b4, 0, none⟩)] w8 _ := tbadd_ok HT8.out b4 3 (by omega) 6 ch4 HB4.out hne4 (mayC_ok (by omega) (by omega) (by omega) (by show (5 : Int) < 6; omega) (.inr (by intro h; cases h)))
  have HA4 := Lib.hid ha4
  clear ha4
  go_wp2_with fail
  refine HA4.out.mono ?_
  rintro e w9 ⟨rfl, ht9, hm⟩
  have HT9 := Lib.hid ht9
  have HM9 := Lib.hid (HM8.out.old hm (fun k hk => by rw [hk]; exact HP.out))
  have HB9 := Lib.hid (HB4.out.keep hm hne4)
  clear ht9 hm HA4 HT8 HB4
  have hg1 : Calls Try.prog 40 #[.pointer (some ⟨p, 0, none⟩), .int .i64 3, .int .i64 6] w9 fun e w' => e = .returned (.pointer (some ⟨b4, 0, none⟩)) ∧ w9 = w' := tbget_any HT9.out 3 6
  have HG1 := Lib.hid hg1
  clear hg1
  go_wp2_with fail
  refine HG1.out.mono ?_
  rintro e w' ⟨rfl, rfl⟩
  have hal : Mod (fun _ => False) w9 (w9.alloc (.cells #[.int .i64 3, .int .i64 4] 3)) := Mod.alloc _ _ _
  have hd : Calls Try.prog 38 #[.pointer (some ⟨p, 0, none⟩), .slice (some ⟨w9.heap.size, 0, none⟩) 2 2] (w9.alloc (.cells #[.int .i64 3, .int .i64 4] 3)) fun e w' => ∃ a c, e = .returned (.slice a 1 c) ∧ TB w' p 1 (dropE (updT (updT (fun _ => none) 3 (some (b1, ch1))) 3 (some (b4, ch4))) [3, 4]) (updT (updT (fun _ => 0) 3 5) 3 6) ∧ Mod (fun k => k = p) (w9.alloc (.cells #[.int .i64 3, .int .i64 4] 3)) w' := by
    refine (tbdrop_any (HT9.out.later hal) _ 2 2 [3, 4] rfl (Rd.lit 3 [.int .i64 3, .int .i64 4] (0, 0) _ 2 rfl rfl (by decide)) (by omega)).mono ?_
    rintro e w' ⟨a, c, he, _, ht, hm⟩
    exact ⟨a, c, he, ht, hm⟩
  have HD := Lib.hid hd
  have HM9b := Lib.hid (HM9.out.of2 hal)
  have HB9b := Lib.hid (HB9.out.keep hal (fun e => e))
  clear hal hd HG1
  go_wp2_with fail
  refine HD.out.mono ?_
  rintro e w10 ⟨a, c, rfl, ht10, hm⟩
  have HT10 := Lib.hid ht10
  have HM10 := Lib.hid (HM9b.out.old hm (fun k hk => by rw [hk]; exact HP.out))
  have hb10 := HB9b.out.keep hm hne4
  have q1 := hb10.cell 1 rfl
  have HG2 : Hid (∀ W, Mod (fun _ => False) w10 W → Calls Try.prog 40 #[.pointer (some ⟨p, 0, none⟩), .int .i64 3, .int .i64 5] W fun e w' => e = .returned (.pointer none) ∧ W = w') := Lib.hid fun W h => tbget_any (ht10.later h) 3 5
  have HL : Hid (∀ W, Mod (fun _ => False) w10 W → Calls Try.prog 42 #[.pointer (some ⟨p, 0, none⟩)] W fun e w' => e = .returned (.int .i64 0) ∧ Mod (fun _ => False) W w') := Lib.hid fun W h => tblen_any (ht10.later h)
  have HY1 : Hid (∀ W, Mod (fun _ => False) w10 W → Calls Try.prog 33 #[.pointer (some ⟨p, 0, none⟩), .int .i64 3, .int .i64 6] W fun e w' => e = .returned (.int .i64 6) ∧ Mod (fun _ => False) W w') := Lib.hid fun W h => by
    have h1 := tbmay_any (ht10.later h) 3 6
    have he : mayC 1 (dropE (updT (updT (fun _ => none) 3 (some (b1, ch1))) 3 (some (b4, ch4))) [3, 4]) (updT (updT (fun _ => 0) 3 5) 3 6) 3 6 = 6 := mayC_gone (i := 3) (conn := 6) (by omega) (by omega) (by omega) (by show (6 : Int) ≤ 6; omega)
    rwa [he] at h1
  have HY2 : Hid (∀ W, Mod (fun _ => False) w10 W → Calls Try.prog 33 #[.pointer (some ⟨p, 0, none⟩), .int .i64 3, .int .i64 7] W fun e w' => e = .returned (.int .i64 0) ∧ Mod (fun _ => False) W w') := Lib.hid fun W h => by
    have h1 := tbmay_any (ht10.later h) 3 7
    have he : mayC 1 (dropE (updT (updT (fun _ => none) 3 (some (b1, ch1))) 3 (some (b4, ch4))) [3, 4]) (updT (updT (fun _ => 0) 3 5) 3 6) 3 7 = 0 := mayC_ok (i := 3) (conn := 7) (by omega) (by omega) (by omega) (by show (6 : Int) < 7; omega) (.inl (by show ([] : List Nat).length < 1; decide))
    rwa [he] at h1
  clear hm HD HT9 ht10 hb10
  go_wp2_with fail
  refine (HG2.out _ (Mod.refl _ _)).mono ?_
  rintro e w' ⟨rfl, rfl⟩
  go_wp2_with fail
  refine (HL.out _ (Mod.refl _ _)).mono ?_
  rintro e w11 ⟨rfl, hm⟩
  have HM11 := Lib.hid hm
  clear hm
  go_wp2_with fail
  refine (HY1.out _ HM11.out).mono ?_
  rintro e w12 ⟨rfl, hm⟩
  have HM12 := Lib.hid (HM11.out.of2 hm)
  clear hm
  go_wp2_with fail
  refine (HY2.out _ HM12.out).mono ?_
  rintro e w13 ⟨rfl, hm⟩
  have HM13 := Lib.hid (HM12.out.of2 hm)
  clear hm
  go_wp2_with fail
  refine (tbadd_nil _ _).mono ?_
  rintro e w' ⟨rfl, rfl⟩
  go_wp2_with fail
  refine (tblen_nil _).mono ?_
  rintro e w' ⟨rfl, rfl⟩
  go_wp2_with fail
  refine (entry_any w13 1 1).mono ?_
  rintro e w14 ⟨b5, ch5, rfl, hb5, _, hm⟩
  have HM14 := Lib.hid (HM13.out.of2 hm)
  have HA5 := Lib.hid (tbadd_nilT w14 b5 1 1 ch5 hb5)
  clear hm hb5
  go_wp2_with fail
  refine HA5.out.mono ?_
  rintro e w15 ⟨rfl, hm⟩
  have HM15 := Lib.hid (HM14.out.of2 hm)
  clear hm
  go_wp2_with fail
  refine (tbget_nil _ _ _).mono ?_
  rintro e w' ⟨rfl, rfl⟩
  go_wp2_with fail
  go_ret
  exact ⟨rfl, HM10.out.of2 HM15.out⟩
end Go.Proofs.Ytfdmjnhhgcidbaa
