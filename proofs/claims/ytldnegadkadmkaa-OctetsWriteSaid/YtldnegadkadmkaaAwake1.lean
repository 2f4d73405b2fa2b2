/- The law's own look at what the document fixes (milepostlaw1.awake): true, and nothing that was there has turned. -/
import Derived.Test.YtldnegadkadmkaaRdr2
namespace Go.Proofs.Ytldnegadkadmkaa
open Go.RowKit Mile

set_option maxHeartbeats 2000000 in
set_option maxRecDepth 100000 in
theorem awake_any (w : World) : Calls Try.prog 8 #[] w fun e w' => e = .returned (.bool true) ∧ Mod (fun _ => False) w w' := by
  go_enter Try.func8, Try.ntmps8
  go_wp2_with fail
  refine (nums_any w.heap.size _ (some []) (fun k => k = w.heap.size) ((Wr.new (w := w) _ rfl).keep (Mod.alloc (fun _ => False) _ _) (fun _ _ e => e)) 2 _ [1, 258] (Rd.many _ [.int .i64 1, .int .i64 258] _ 2 (by simp) rfl (by omega)) (by intro k hk e; simp [Value.ownBlock] at hk; omega) (by simp)).mono ?_
  rintro e w1 ⟨rfl, F1, hW1, hA1⟩
  have hs1 := hA1.1.size
  rw [show numsS 2 [1, 258] (some []) = some [0, 1, 1, 2] by decide] at hW1
  go_wp2_with fail
  refine (raw_any w.heap.size _ (some [0, 1, 1, 2]) F1 (hW1.keep (Mod.alloc (fun _ => False) _ _) (fun _ _ e => e)) _ [9] (Rd.many _ [.int .u8 9] _ 1 rfl rfl (by omega)) (by simp)).mono ?_
  rintro e w2 ⟨rfl, F2, hW2, hA2⟩
  go_wp2_with fail
  refine (bytes_any w.heap.size _ (some [0, 1, 1, 2, 9]) F2 hW2 (by simp)).mono ?_
  rintro e w3 ⟨vb, rfl, hB, hM3, ab, cb, rfl⟩
  have hs2 := hA2.1.size
  have hs3 := hM3.size
  simp at hs1 hs2
  have hB' : w3.ownsRow w2.heap.size 5 1 (.slice ab 5 cb) 5 ([0, 1, 1, 2, 9].map (Value.int .u8)) := hB
  have hBl : ∀ k, (Value.slice ab 5 cb).ownBlock = some k → k < w3.heap.size := fun k hk => Own.lt hB' hk
  have hBr : Rd w3 1 (.slice ab 5 cb) 5 ([0, 1, 1, 2, 9].map (Value.int .u8)) := Rd.ofOwn hB'
  clear hB hB'
  -- from here on nothing below block w3.heap.size is written
  go_wp2_with fail
  refine (nums_any w3.heap.size _ (some []) (fun k => k = w3.heap.size) (Wr.new (w := w3) _ rfl) 8 _ [] (Rd.nil _ _) (by simp [Value.ownBlock]) (by simp)).mono ?_
  rintro e w4 ⟨rfl, F4, hW4, hA4⟩
  rw [show numsS 8 [] (some []) = none by decide] at hW4
  go_wp2_with fail
  refine (bytes_any w3.heap.size _ _ F4 hW4 (by simp)).mono ?_
  rintro e w5 ⟨vc, rfl, hC, hM5, ac, cc, rfl⟩
  have m5 : Mod (fun k => w3.heap.size ≤ k) w3 w5 := ((Mod.alloc _ w3 _).trans hA4.1 (fun _ _ e => e) (fun i _ e => by omega)).trans hM5 (fun _ _ e => e) (fun _ _ e => e.elim)
  have hBr5 := hBr.keep m5 (fun k hk => by have := hBl k hk; omega)
  go_wp2_with fail
  refine (read_any _ _ [0, 1, 1, 2, 9] hBr5 (by simp)).mono ?_
  rintro e w6 ⟨p6, F6, rfl, hR6, hF6, hM6⟩
  have m6 : Mod (fun k => w3.heap.size ≤ k) w3 w6 := m5.trans hM6 (fun _ _ e => e) (fun _ _ e => e.elim)
  have hs5 := m5.size
  go_wp2_with fail
  refine (num_any p6 _ _ F6 hR6 (by decide) 2).mono ?_
  rintro e w7 ⟨rfl, hR7, hM7⟩
  rw [show numR 2 (some [0, 1, 1, 2, 9]) = (1, some [1, 2, 9]) by decide] at hR7 ⊢
  go_wp2_with fail
  refine (num_any p6 _ _ F6 hR7 (by decide) 2).mono ?_
  rintro e w8 ⟨rfl, hR8, hM8⟩
  rw [show numR 2 (some [1, 2, 9]) = (258, some [9]) by decide] at hR8 ⊢
  go_wp2_with fail
  refine (rraw_any p6 _ _ F6 hR8 1 (by simp)).mono ?_
  rintro e w9 ⟨vz, rfl, hZ, hR9, hM9⟩
  rw [show takeS 1 (some [9]) = ([9], some []) by decide] at hR9 hZ
  have hp6 : w3.heap.size ≤ p6 := by
    obtain ⟨_, _, _, h3, _⟩ := hR6
    exact Nat.le_trans hs5 (hF6 p6 h3)
  have m9 : Mod (fun k => w3.heap.size ≤ k) w3 w9 :=
    ((m6.trans hM7 (fun _ _ e => e) (fun i _ e => by omega)).trans hM8 (fun _ _ e => e) (fun i _ e => by omega)).trans hM9 (fun _ _ e => e) (fun i _ e => by omega)
  go_wp2_with fail
  refine (done_any p6 _ _ F6 hR9).mono ?_
  rintro e w9' ⟨rfl, rfl⟩
  go_wp2_with fail
  refine (num_any p6 _ _ F6 hR9 (by decide) 1).mono ?_
  rintro e w10 ⟨rfl, hR10, hM10⟩
  rw [show numR 1 (some []) = (0, none) by decide] at hR10 ⊢
  have m10 := m9.trans hM10 (H := fun k => w3.heap.size ≤ k) (fun _ _ e => e) (fun i _ e => by omega)
  have hBr10 := hBr.keep m10 (fun k hk => by have := hBl k hk; omega)
  have hZ' : w9.ownsRow w8.heap.size 5 1 vz 1 ([9].map (Value.int .u8)) := hZ
  obtain ⟨az, cz, rfl⟩ := own_form hZ'
  have hs8 : p6 < w8.heap.size := hR8.lt p6 (by obtain ⟨_, _, _, h3, _⟩ := hR6; exact h3)
  have hZr10 : Rd w10 1 (.slice az 1 cz) 1 ([9].map (Value.int .u8)) := (Rd.ofOwn hZ').keep hM10 (fun k hk => by have := (hZ'.lt k hk).1; omega)
  go_wp2_with fail
  refine (nums_nil _ _ _).mono ?_
  rintro e w11 ⟨rfl, rfl⟩
  go_wp2_with fail
  refine (bytes_nil _).mono ?_
  rintro e w11 ⟨rfl, rfl⟩
  have k1 := run_strS (P := Try.prog) (w10.alloc (.cells #[.int .i64 1] 3)) 26 9 5 Try.underlying26 Try.underlying5 Try.underlying9 (hBr10.alloc _)
  have k2 := run_strS (P := Try.prog) (w10.alloc (.cells #[.int .i64 1] 3)) 26 9 5 Try.underlying26 Try.underlying5 Try.underlying9 (hZr10.alloc _)
  rw [show strOf [0, 1, 1, 2, 9] = ⟨#[0, 1, 1, 2, 9]⟩ by rfl] at k1
  rw [show strOf [9] = ⟨#[9]⟩ by rfl] at k2
  have hR11 : Rdr (w10.alloc (.cells #[.int .i64 1] 3)) p6 none F6 := hR10.keep (Mod.alloc (fun _ => False) _ _) (fun _ _ e => e)
  have a1 : Mod (fun k => w.heap.size ≤ k) w w1 := (((Mod.refl _ w).thenAlloc _).thenAlloc _).trans hA1.1 (fun _ _ e => e) (fun i _ e => by omega)
  have a2 : Mod (fun k => w.heap.size ≤ k) w w2 := (a1.thenAlloc _).trans hA2.1 (fun _ _ e => e) (fun i hi e => by
    rcases hA1.2 i e with h | h
    · omega
    · simp at h; omega)
  have a3 := a2.trans hM3 (H := fun k => w.heap.size ≤ k) (fun _ _ e => e) (fun _ _ e => e.elim)
  have a10 : Mod (fun _ => False) w (w10.alloc (.cells #[.int .i64 1] 3)) := (a3.trans m10 (H := fun _ => False) (fun i hi e => by omega) (fun i hi e => by omega)).thenAlloc _
  clear hW1 hA1 hW2 hA2 hM3 hBr hW4 hA4 hC hM5 hBr5 hR6 hM6 hR7 hM7 hR8 hM8 hZ hZ' hR9 hM9 hR10 hM10 hBr10 hZr10 m5 m6 m9 m10 a1 a2 a3
  go_wp2_with fail
  refine (done_any p6 _ _ F6 hR11).mono ?_
  rintro e w11 ⟨rfl, rfl⟩
  go_wp2_with fail
  refine (num_nil _ _).mono ?_
  rintro e w11 ⟨rfl, rfl⟩
  go_wp2_with fail
  refine (done_nil _).mono ?_
  rintro e w11 ⟨rfl, rfl⟩
  go_wp2
  go_ret
  exact ⟨rfl, a10⟩

end Go.Proofs.Ytldnegadkadmkaa
