/- Law 13's awake. -/
import Derived.Test.YtnklgeekjkchbaaRN4
namespace Go.Proofs.Ytnklgeekjkchbaa
open Go.RowKit Mile
set_option maxRecDepth 100000
theorem aw13_b1 : newB 3 [⟨0, 1, 5, -1⟩, ⟨0, 1, 3, 2⟩] = true := by decide
theorem aw13_l1 : putAllN [⟨0, 1, 5, -1⟩, ⟨0, 1, 3, 2⟩] = [⟨0, 1, 3, 2⟩] := rfl
theorem aw13_b2 : newB 3 [⟨0, 0, 5, -1⟩] = false := by decide
theorem aw13_b3 : newB (-1) [] = false := by decide
theorem aw13_p1 : putOk 3 [⟨0, 1, 3, 2⟩] ⟨0, 1, 3, -1⟩ = false := by decide
theorem aw13_r1 : putR 3 [⟨0, 1, 3, 2⟩] ⟨0, 1, 3, -1⟩ = [⟨0, 1, 3, 2⟩] := rfl
theorem aw13_p2 : putOk 3 [⟨0, 1, 3, 2⟩] ⟨1, 2, 1, -1⟩ = true := by decide
theorem aw13_r2 : putR 3 [⟨0, 1, 3, 2⟩] ⟨1, 2, 1, -1⟩ = [⟨0, 1, 3, 2⟩, ⟨1, 2, 1, -1⟩] := rfl
theorem aw13_c : cutR 3 [⟨0, 1, 3, 2⟩, ⟨1, 2, 1, -1⟩] 1 = [] := rfl
theorem aw13_f : findN [⟨0, 1, 3, 2⟩] 0 1 = some ⟨0, 1, 3, 2⟩ := rfl
set_option maxHeartbeats 16000000 in
theorem awake13_any (w : World) : Calls Try.prog 10 #[] w fun e w' => e = .returned (.bool true) ∧ Mod (fun _ => False) w w' := by
  have HNW := Lib.hid (fun W a ln c A h1 h2 h3 => nt_new W 3 a ln c A h1 h2 h3)
  have HNM := Lib.hid (fun W => nt_new W (-1) none 0 0 [] rfl (Rd.ofOwn (World.ownsRow_nil W 0 32 4)) (by omega))
  go_enter Try.func10, Try.ntmps10
  go_wp2_with fail
  refine (HNW.out _ _ 2 2 [⟨0, 1, 5, -1⟩, ⟨0, 1, 3, 2⟩] rfl (by exact Rd.litN 32 4 [.int .i64 0, .int .i64 1, .int .i64 5, .int .i64 (-1), .int .i64 0, .int .i64 1, .int .i64 3, .int .i64 2] (0, 0) _ 2 (by first | rfl | simp) rfl (by decide)) (by omega)).mono ?_
  rintro e w1 ⟨h1, _⟩
  obtain ⟨q, F, rfl, hnt, hnw, hm⟩ := h1 aw13_b1
  rw [aw13_l1] at hnt
  have hnt : NT w1 q 3 [⟨0, 1, 3, 2⟩] F := hnt
  have hm1 : Mod (fun _ => False) w w1 := (Mod.alloc _ _ _).of2 hm
  have hnw1 : ∀ k, F k → w.heap.size ≤ k := fun k hk => Nat.le_trans (Mod.alloc (fun _ => False) w _).size (hnw k hk)
  have HN1 := Lib.hid hnt
  have HM1 := Lib.hid hm1
  have HF1 := Lib.hid hnw1
  clear h1 hnt hnw hm hm1 hnw1
  go_wp2_with fail
  refine (HNW.out _ _ 1 1 [⟨0, 0, 5, -1⟩] rfl (by exact Rd.litN 32 4 [.int .i64 0, .int .i64 0, .int .i64 5, .int .i64 (-1)] (0, 0) _ 1 (by first | rfl | simp) rfl (by decide)) (by omega)).mono ?_
  rintro e w2 ⟨_, h2⟩
  obtain ⟨rfl, hm⟩ := h2 aw13_b2
  have HM2 := Lib.hid ((Mod.alloc (fun _ => False) w1 _).of2 hm)
  clear h2 hm
  go_wp2_with fail
  refine (HNM.out _).mono ?_
  rintro e w3 ⟨_, h2⟩
  obtain ⟨rfl, hm⟩ := h2 aw13_b3
  have HM3 := Lib.hid (HM2.out.of2 hm)
  have HN3 := Lib.hid (HN1.out.later HM3.out)
  clear h2 hm HM2
  go_wp2_with fail
  refine (nt_arc HN3.out 0 1).mono ?_
  rintro e w4 ⟨rfl, hm⟩
  rw [aw13_f]
  unfold arcV arV
  have HM4 := Lib.hid (HM3.out.of2 hm)
  have HN4 := Lib.hid (HN3.out.later hm)
  clear hm
  go_upto_region 7 with fail
  obtain ⟨g, hg⟩ : ∃ y, w4.heap.size = y := ⟨_, rfl⟩
  obtain ⟨w5, hw5⟩ : ∃ y, w4.alloc (.cells #[.int .i64 0, .int .i64 1, .int .i64 3, .int .i64 2] 32) = y := ⟨_, rfl⟩
  have hg5 : Blk w5 g 32 [.int .i64 0, .int .i64 1, .int .i64 3, .int .i64 2] := by rw [← hw5, ← hg]; exact Blk.new w4 32 [.int .i64 0, .int .i64 1, .int .i64 3, .int .i64 2]
  have hm5 : Mod (fun _ => False) w4 w5 := by rw [← hw5]; exact Mod.alloc _ _ _
  (try rw [hw5])
  (try rw [hg])
  have hgF : ¬ F g := fun e => by have := HN4.out.lt g e; omega
  have HM5 := Lib.hid ((HM1.out.of2 HM4.out).of2 hm5)
  have HN5 := Lib.hid (HN4.out.later hm5)
  have HG5 := Lib.hid hg5
  have HGF := Lib.hid hgF
  have hgw : w.heap.size ≤ g := by have h1 := (HM1.out.of2 HM4.out).size; omega
  have HGW := Lib.hid hgw
  clear hg hw5 hg5 hm5 hgF hgw
  go_wp2_with fail
  refine (nt_put HN5.out 0 1 3 (-1)).mono ?_
  rintro e w6 ⟨rfl, F6, hn6, hf6, hm6⟩
  rw [aw13_r1] at hn6
  rw [aw13_p1]
  have hs5 := HM5.out.size
  have hg6 := HG5.out.keep hm6 HGF.out
  have hgF6 : ¬ F6 g := fun e => (hf6 g e).elim HGF.out (fun h => by have := HG5.out.lt; omega)
  have hf6w : ∀ k, F6 k → w.heap.size ≤ k := fun k hk => (hf6 k hk).elim (HF1.out k) (fun h => Nat.le_trans hs5 h)
  have hm6w : Mod (fun _ => False) w w6 := HM5.out.trans hm6 (fun _ _ e => e.elim) (fun k hk e => by have := HF1.out k e; omega)
  have HN6 := Lib.hid hn6
  have HG6 := Lib.hid hg6
  have HGF6 := Lib.hid hgF6
  have HF6 := Lib.hid hf6w
  have HM6 := Lib.hid hm6w
  clear hn6 hf6 hm6 hs5 hg6 hgF6 hf6w hm6w
  go_wp2_with fail
  refine (nt_put HN6.out 1 2 1 (-1)).mono ?_
  rintro e w7 ⟨rfl, F7, hn7, hf7, hm7⟩
  rw [aw13_r2] at hn7
  rw [aw13_p2]
  have hs6 := HM6.out.size
  have hg7 := HG6.out.keep hm7 HGF6.out
  have hgF7 : ¬ F7 g := fun e => (hf7 g e).elim HGF6.out (fun h => by have := HG6.out.lt; omega)
  have hf7w : ∀ k, F7 k → w.heap.size ≤ k := fun k hk => (hf7 k hk).elim (HF6.out k) (fun h => Nat.le_trans hs6 h)
  have hm7w : Mod (fun _ => False) w w7 := HM6.out.trans hm7 (fun _ _ e => e.elim) (fun k hk e => by have := HF6.out k e; omega)
  have HN7 := Lib.hid hn7
  have HG7 := Lib.hid hg7
  have HGF7 := Lib.hid hgF7
  have HF7 := Lib.hid hf7w
  have HM7 := Lib.hid hm7w
  clear hn7 hf7 hm7 hs6 hg7 hgF7 hf7w hm7w
  go_wp2_with fail
  refine (nt_copy HN7.out).mono ?_
  rintro e w8 ⟨o, F8, rfl, hn8, hf8, hm8⟩
  have hg8 := HG7.out.keep hm8 (fun e => e)
  have hno : ∀ k, F8 k → ¬ F7 k := fun k hk e => by have h1 := hf8 k hk; have h2 := HN7.out.lt k e; omega
  have HO8 := Lib.hid hn8
  have HN8 := Lib.hid (HN7.out.later hm8)
  have HG8 := Lib.hid hg8
  have HNO := Lib.hid hno
  have HM8 := Lib.hid (HM7.out.of2 hm8)
  clear hn8 hf8 hm8 hg8 hno
  go_wp2_with fail
  refine (nt_cut HN8.out 1).mono ?_
  rintro e w9 ⟨rfl, F9, hn9, hf9, hm9⟩
  rw [aw13_c] at hn9
  have hg9 := HG8.out.keep hm9 HGF7.out
  have hm9w : Mod (fun _ => False) w w9 := HM8.out.trans hm9 (fun _ _ e => e.elim) (fun k hk e => by have := HF7.out k e; omega)
  have HN9 := Lib.hid hn9
  have HO9 := Lib.hid (HO8.out.keep hm9 HNO.out)
  have HM9 := Lib.hid hm9w
  have HG9 := Lib.hid hg9
  have g3 := hg9.cell 3 rfl
  clear hn9 hf9 hm9 hm9w hg9
  go_wp2_with fail
  refine (nt_all HN9.out).mono ?_
  rintro e wa ⟨aa, ca, rfl, _, hma⟩
  have HA := Lib.hid hma
  clear hma g3
  go_wp2_with fail
  refine (nt_all (HO9.out.later HA.out)).mono ?_
  rintro e wb ⟨ab, cb, rfl, _, hmb⟩
  have HB := Lib.hid (HA.out.of2 hmb)
  clear hmb
  go_wp2_with fail
  refine (nt_len (HN9.out.later HB.out)).mono ?_
  rintro e wc ⟨rfl, rfl⟩
  go_wp2_with fail
  refine (nt_len_nil _).mono ?_
  rintro e wc ⟨rfl, rfl⟩
  go_wp2_with fail
  refine (nt_copy_nil _).mono ?_
  rintro e wc ⟨rfl, rfl⟩
  have hgb := HG9.out.keep HB.out (fun e => e)
  have k0 := hgb.cell 0 rfl
  have k1 := hgb.cell 1 rfl
  have k2 := hgb.cell 2 rfl
  have k3 := hgb.cell 3 rfl
  clear hgb
  go_wp2_with fail
  refine (nt_put_nil _ 0 1 3 2).mono ?_
  rintro e wd ⟨rfl, hmd⟩
  have HD := Lib.hid (HB.out.of2 hmd)
  clear hmd k0 k1 k2 k3
  go_wp2_with fail
  go_ret
  exact ⟨rfl, HM9.out.of2 HD.out⟩
end Go.Proofs.Ytnklgeekjkchbaa
