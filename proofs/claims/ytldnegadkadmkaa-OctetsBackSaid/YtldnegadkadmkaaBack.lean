/- The law OctetsBack, walked. -/
import Derived.Test.YtldnegadkadmkaaSpoilt
namespace Go.Proofs.Ytldnegadkadmkaa
open Go.RowKit Mile

theorem numsS_one {r M : Int} (h : IsM r M) (x : Int) (bs : List Int) (hx : 0 ≤ x ∧ x < M) : numsS (1 + r) [x] (some bs) = some (bs ++ digs x (1 + r).toNat) := by
  have f : Mile.fits (1 + r).toNat x = true := by rw [h.fits]; simpa using hx
  simp [numsS, h.ok, numsL, f]

theorem numsS_all {r M : Int} (h : IsM r M) (ls : List Int) (hx : ∀ x ∈ ls, 0 ≤ x ∧ x < M) : numsS (1 + r) ls (some []) = some (enc (1 + r).toNat ls) := by
  have f : ∀ x ∈ ls, Mile.fits (1 + r).toNat x = true := fun x hm => by rw [h.fits]; simpa using hx x hm
  simp [numsS, h.ok, numsL_enc _ _ _ f]

theorem bytes_n (p : Nat) (w : World) (bs : List Int) (F : Nat → Prop) (h : Wr w p (some bs) F) (n : Nat) (hn : bs.length = n) (hbd : n ≤ 1000000000) :
    Calls Try.prog 13 #[.pointer (some ⟨p, 0, none⟩)] w fun e w' => ∃ a c, e = .returned (.tuple #[.slice a n c, .int .i64 0]) ∧ w'.ownsRow w.heap.size 5 1 (.slice a n c) n (bs.map (Value.int .u8)) ∧ Mod (fun _ => False) w w' := by
  subst hn
  refine (bytes_any p w (some bs) F h hbd).mono ?_
  rintro e w' ⟨v', rfl, hfr, hm, a, c, rfl⟩
  exact ⟨a, c, rfl, hfr, hm⟩

theorem takeS_app (n : Int) (xs ys : List Int) (h : n = xs.length) : takeS n (some (xs ++ ys)) = (xs, some ys) := by
  subst h
  simp [takeS]
  omega

theorem numR_enc {r M : Int} (h : IsM r M) (ls more : List Int) (j : Nat) (hj : j < ls.length) (hx : 0 ≤ ls[j] ∧ ls[j] < M) :
    numR (1 + r) (some (enc (1 + r).toNat (ls.drop j) ++ more)) = (ls[j], some (enc (1 + r).toNat (ls.drop (j + 1)) ++ more)) := by
  have := h.r0
  have f : Mile.fits (1 + r).toNat ls[j] = true := by rw [h.fits]; simpa using hx
  simp only [numR, h.ok, if_true]
  rw [enc_drop _ _ _ hj, List.append_assoc, takeS_app (1 + r) (digs ls[j] (1 + r).toNat) _ (by rw [digs_length]; omega), undigs_digs_fit _ _ f]

set_option maxHeartbeats 8000000 in
set_option maxRecDepth 100000 in
theorem back_walk (w : World) (size : Int) (a1 : Option Addr) (c1 : Nat) (ns : List Int) (a2 : Option Addr) (c2 : Nat) (more : List Int)
    (hr1 : Rd w 1 (.slice a1 ns.length c1) ns.length (ns.map (Value.int .i64))) (hr2 : Rd w 1 (.slice a2 more.length c2) more.length (more.map (Value.int .u8))) (hb : ∀ b ∈ more, 0 ≤ b ∧ b < 256) (hl1 : ns.length ≤ 40) (hl2 : more.length ≤ 60) :
    Calls Try.prog 5 #[.int .i64 size, .slice a1 ns.length c1, .slice a2 more.length c2] w fun e w' => e = .returned (.bool true) ∧ Mod (fun _ => False) w w' := by
  obtain ⟨i3, hi3, hy3, hz3, hv3⟩ := info_parts Oct.info3
  have q1 : (ns.length : Int) ≤ 40 := by omega
  have q2 : (more.length : Int) ≤ 60 := by omega
  obtain ⟨r, hr⟩ : ∃ r, size % 7 = r := ⟨_, rfl⟩
  have r0 : 0 ≤ r := by omega
  have r1 : r < 7 := by omega
  obtain ⟨M, hM⟩ := exM r r0 r1
  have M0 := hM.lo
  have M1 := hM.hi
  have eM := hM.wrap
  have HR := Lib.hid hr
  clear hr
  obtain ⟨ls, hls⟩ : ∃ ls, ns.map (· % M) = ls := ⟨_, rfl⟩
  have hlen : ls.length = ns.length := by rw [← hls]; simp
  have hin : ∀ x ∈ ls, 0 ≤ x ∧ x < M := by
    intro x hx
    rw [← hls] at hx
    obtain ⟨y, _, rfl⟩ := List.mem_map.1 hx
    exact ⟨Int.emod_nonneg y (by omega), Int.emod_lt_of_pos y (by omega)⟩
  have hget : ∀ j (h : j < ns.length), ls[j]? = some (ns[j] % M) := by
    intro j h; subst hls; simp [h]
  have HG := Lib.hid hget
  have HL := Lib.hid hlen
  clear hls hget hlen
  go_enter Try.func5, Try.ntmps5
  go_wp2_with fail
  refine (round_any size 7 _ (by omega) (by omega)).mono ?_
  rintro e w0 ⟨rfl, rfl⟩
  rw [HR.out]
  go_wp2_with fail
  go_loopw [8, 9, 10] (fun l v i wr => ∃ (j : Nat) (al : Option Addr) (cl : Nat) (F : Nat → Prop), j ≤ ns.length ∧ i = .int .i64 j ∧ v = .pointer (some ⟨w.heap.size, 0, none⟩) ∧ l = .slice al j cl ∧
      wr.ownsRow 0 3 1 (.slice al j cl) j ((ls.take j).map (Value.int .i64)) ∧ (∀ k, (Value.slice al j cl).ownBlock = some k → ¬ F k ∧ w.heap.size ≤ k) ∧ Wr wr w.heap.size (some (enc (1 + r).toNat (ls.take j))) F ∧ After w wr (fun _ => False) F)
    (fun _ _ i _ => ns.length - (intOf i).toNat)
  case atStart =>
    exact ⟨0, none, 0, fun k => k = w.heap.size, Nat.zero_le _, rfl, rfl, rfl, World.ownsRow_nil _ _ _ _, by simp [Value.ownBlock], Wr.new _ rfl, ⟨Mod.alloc _ _ _, fun k hk => .inr (by omega)⟩⟩
  case round =>
    obtain ⟨j, al, cl, F, hj, rfl, rfl, rfl, hO, hOb, hW, hA⟩ := hrel
    by_cases hlt : j < ns.length
    · have hs1 := hr1.some_ (by omega)
      have hrw : Rd wr 1 (.slice a1 ns.length c1) ns.length (ns.map (Value.int .i64)) := hr1.keepA hA.1 (fun _ _ e => e.elim)
      have hcell : wr.cell? (elemA a1 j 1) = some (.int .i64 ns[j]) := hrw.elem (by simp [hlt])
      have hix := fun wx => run_indexS (P := Try.prog) wx 32 3 i3 1 Try.underlying32 hi3 hz3 a1 ns.length c1 j hlt hs1
      have e8 : IntKind.i64.wrap (8 * (1 + r)) = 8 * (1 + r) := IntWalk.i64_in _ (by omega)
      have hm1 : j + 1 ≤ maxLen := by unfold maxLen; omega
      have hm2 : (j + 1) * 8 ≤ 140737488355328 := by omega
      go_wp2_with fail
      go_region_law (first | (refine step_append_any rfl (.tmp 37) (.tmp 46) 32 rfl 3 i3 (.int .i64 0) 1 8 Try.underlying32 hi3 hy3 hz3 hv3 rfl (by decide) (.slice al j cl) j ((ls.take j).map (Value.int .i64)) (by simp [Act.eval, Act.put]) (by exact (World.ownsRow.alloc hO _).drew) (.slice (some ⟨wr.heap.size, 0, none⟩) 1 1) 1 [.int .i64 (ns[j] % M)] (by simp [Act.eval, Act.put]) (by exact (Rd.one wr _ _).drew) (by simp [Value.oneCell']) hm1 hm2 ?_; intro v' w' hap; obtain ⟨a3, c3, rfl⟩ := hap.form) | (go_simp; go_at_call 23; refine (round_any _ M _ (by omega) (by omega)).mono ?_; rintro e w' ⟨rfl, rfl⟩))
      have hmd := hap.mod
      have hO2 : w'.ownsRow 0 3 1 (.slice a3 (j + 1) c3) (j + 1) ((ls.take (j + 1)).map (Value.int .i64)) := by
        have ht : (ls.take (j + 1)).map (Value.int .i64) = (ls.take j).map (Value.int .i64) ++ [.int .i64 (ns[j] % M)] := by
          rw [List.take_add_one, HG.out j hlt]; simp
        rw [ht]; exact hap.own
      have hFl := hW.lt
      have hO2b : ∀ k, (Value.slice a3 (j + 1) c3).ownBlock = some k → ¬ F k ∧ w.heap.size ≤ k := by
        intro k hk
        have hsz := hA.1.size
        rcases hap.row k hk with h | h
        · exact hOb k h
        · simp at h
          exact ⟨fun hf => by have := hFl k hf; omega, by omega⟩
      have hW2 : Wr w' w.heap.size (some (enc (1 + r).toNat (ls.take j))) F := ((hW.alloc _).drew).keep hmd (fun k hf hk => (hOb k hk).1 hf)
      have hA2 : Mod (fun _ => False) w w' := (hA.1.trans (((Mod.refl (fun _ => False) wr).thenAlloc _).thenDrew) (fun _ _ e => e) (fun _ _ e => e)).trans hmd (fun _ _ e => e) (fun i hi hk => by have := (hOb i hk).2; omega)
      have hR2 := Rd.ofOwn hO2
      have hcell2 : w'.cell? (elemA a3 j 1) = some (.int .i64 (ns[j] % M)) := hR2.elem (by rw [List.getElem?_map, List.getElem?_take, if_pos (by omega), HG.out j hlt]; rfl)
      have hix2 := fun wx => run_indexS (P := Try.prog) wx 32 3 i3 1 Try.underlying32 hi3 hz3 a3 (j + 1) c3 j (by omega) (hR2.some_ (by omega))
      have hxm : 0 ≤ ns[j] % M ∧ ns[j] % M < M := ⟨Int.emod_nonneg _ (by omega), Int.emod_lt_of_pos _ (by omega)⟩
      have hWl := hW2.lt
      have hbd7 : ((some (enc (1 + r).toNat (ls.take j))).getD []).length + 7 * [ns[j] % M].length ≤ 1000000000 := by
        have := Nat.mul_le_mul (show (1 + r).toNat ≤ 7 by omega) (show (ls.take j).length ≤ 40 by rw [List.length_take]; omega)
        simp [enc_length] at this ⊢
        omega
      have hFw : ∀ k, F k → w.heap.size ≤ k := fun k hk => by rcases hA.2 k hk with h | h; exact h.elim; exact h
      clear hap hmd hO hOb hW hcell hix
      go_wp2_with fail
      refine (nums_any w.heap.size _ _ F (hW2.alloc _) (1 + r) _ [ns[j] % M] (Rd.one w' _ _) (by intro b hb hf; simp [Value.ownBlock] at hb; have := hWl b hf; omega) hbd7).mono ?_
      rintro e w2 ⟨rfl, F2, hW3, hA3⟩
      rw [numsS_one hM _ _ hxm] at hW3
      go_wp2
      go_roundw
      case rel =>
        refine ⟨j + 1, a3, c3, F2, hlt, by go_num, rfl, rfl, ?_, ?_, ?_, ?_⟩
        · exact Own.keep (World.ownsRow.alloc hO2 _) hA3.1 (fun k hk => (hO2b k hk).1)
        · intro k hk
          refine ⟨fun hf => ?_, (hO2b k hk).2⟩
          rcases hA3.2 k hf with h | h
          · exact (hO2b k hk).1 h
          · have := Own.lt hO2 hk; simp at h; omega
        · have hj' : j < ls.length := by rw [HL.out]; exact hlt
          have e : ls[j] = ns[j] % M := by have := HG.out j hlt; rw [List.getElem?_eq_getElem hj'] at this; exact Option.some.inj this
          rw [enc_snoc _ _ _ hj', e]; exact hW3
        · exact ⟨(hA2.thenAlloc _).trans hA3.1 (fun _ _ e => e) (fun i hi hk => by have := hFw i hk; omega), fun k hk => by
            rcases hA3.2 k hk with h | h
            · exact .inr (hFw k h)
            · simp at h; have := hA2.size; exact .inr (by omega)⟩
      case measure => simp [intOf]; omega
    · obtain rfl : j = ns.length := by omega
      have hO' : wr.ownsRow 0 3 1 (.slice al ns.length cl) ns.length (ls.map (Value.int .i64)) := by
        have := hO; rw [List.take_of_length_le (by rw [HL.out]; exact Nat.le_refl _)] at this; exact this
      have hW' : Wr wr w.heap.size (some (enc (1 + r).toNat ls)) F := by
        have := hW; rw [List.take_of_length_le (by rw [HL.out]; exact Nat.le_refl _)] at this; exact this
      have hFw : ∀ k, F k → w.heap.size ≤ k := fun k hk => by rcases hA.2 k hk with h | h; exact h.elim; exact h
      have hFl := hW.lt
      have hOl : ∀ k, (Value.slice al ns.length cl).ownBlock = some k → k < wr.heap.size := fun k hk => Own.lt hO hk
      clear hO hW
      go_wp2_with fail
      have hL0 : Rd wr 1 (.slice al ns.length cl) ls.length (ls.map (Value.int .i64)) := by rw [HL.out]; exact Rd.ofOwn hO'
      have hlb : ls.length ≤ 40 := by rw [HL.out]; omega
      refine (nums_any wr.heap.size _ (some []) (fun k => k = wr.heap.size) (Wr.new _ rfl) (1 + r) _ ls (hL0.alloc _) (by intro b hb hf; have := hOl b hb; omega) (by simp; omega)).mono ?_
      rintro e w1 ⟨rfl, F1, hX1, hB1⟩
      rw [numsS_all hM ls hin] at hX1
      have n1 : Mod (fun k => wr.heap.size ≤ k) wr w1 := (Mod.alloc _ wr _).trans hB1.1 (fun _ _ e => e) (fun i _ e => by omega)
      have f1 : ∀ k, F1 k → wr.heap.size ≤ k := fun k hk => by
        rcases hB1.2 k hk with h | h
        · omega
        · simp at h; omega
      have t1 : Mod (fun _ => False) w w1 := hA.1.trans n1 (fun _ _ e => e) (fun i hi e => by have := hA.1.size; omega)
      have hq1 := hr2.keepA t1 (fun _ _ e => e.elim)
      have hel : (enc (1 + r).toNat ls).length ≤ 280 := by
        rw [enc_length]
        have := Nat.mul_le_mul (show (1 + r).toNat ≤ 7 by omega) hlb
        omega
      go_wp2_with fail
      refine (raw_any wr.heap.size _ (some (enc (1 + r).toNat ls)) F1 hX1 _ more hq1 (by simp; omega)).mono ?_
      rintro e w2 ⟨rfl, F2, hX2, hB2⟩
      obtain ⟨BB, hBB⟩ : ∃ BB, enc (1 + r).toNat ls ++ more = BB := ⟨_, rfl⟩
      have hX2' : Wr w2 wr.heap.size (some BB) F2 := by rw [← hBB]; exact hX2
      obtain ⟨nb, hnb⟩ : ∃ nb, BB.length = nb := ⟨_, rfl⟩
      have hnb2 : nb = (1 + r).toNat * ns.length + more.length := by rw [← hnb, ← hBB, List.length_append, enc_length, HL.out]
      have hnb3 : nb ≤ 340 := by rw [← hnb, ← hBB, List.length_append]; omega
      have HB := Lib.hid hBB
      have HN := Lib.hid hnb
      have HN2 := Lib.hid hnb2
      clear hX2 hBB hnb hnb2
      go_wp2_with fail
      refine (bytes_n wr.heap.size _ BB F2 hX2' nb HN.out (by omega)).mono ?_
      rintro e w3 ⟨ab, cb, rfl, hYb, hM3⟩
      have n3 : Mod (fun k => wr.heap.size ≤ k) wr w3 := (n1.trans hB2.1 (H := fun k => wr.heap.size ≤ k) (fun _ _ e => e) (fun i _ e => f1 i e)).trans hM3 (fun _ _ e => e) (fun _ _ e => e.elim)
      have t3 : Mod (fun _ => False) w w3 := hA.1.trans n3 (fun _ _ e => e) (fun i hi e => by have := hA.1.size; omega)
      have hq3 := hr2.keepA t3 (fun _ _ e => e.elim)
      have hW3 := hW'.keep n3 (fun k hk => by have := hFl k hk; omega)
      go_wp2_with fail
      refine (raw_any w.heap.size _ (some (enc (1 + r).toNat ls)) F hW3 _ more hq3 (by simp; omega)).mono ?_
      rintro e w4 ⟨rfl, F4, hX4, hB4⟩
      have hX4' : Wr w4 w.heap.size (some BB) F4 := by rw [← HB.out]; exact hX4
      go_wp2_with fail
      refine (bytes_n w.heap.size _ BB F4 hX4' nb HN.out (by omega)).mono ?_
      rintro e w5 ⟨ac, cc, rfl, hYc, hM5⟩
      have n5 : Mod F w3 w5 := hB4.1.trans hM5 (fun _ _ e => e) (fun _ _ e => e.elim)
      have t5 : Mod (fun _ => False) w w5 := t3.trans n5 (fun _ _ e => e) (fun i hi e => by have := hFw i e; omega)
      have hs2 : wr.heap.size ≤ w2.heap.size := Nat.le_trans n1.size hB2.1.size
      have hRb5 : Rd w5 1 (.slice ab nb cb) nb (BB.map (Value.int .u8)) := (Rd.ofOwn hYb).keep n5 (fun k hk hf => by have := (hYb.lt k hk).1; have := hFl k hf; omega)
      have hRb5' : Rd w5 1 (.slice ab nb cb) BB.length (BB.map (Value.int .u8)) := by rw [HN.out]; exact hRb5
      go_wp2_with fail
      refine (read_any _ (.slice ab nb cb) BB hRb5' (by rw [HN.out]; omega)).mono ?_
      rintro e w6 ⟨p6, F6, rfl, hR6, hF6, hM6⟩
      have t6 : Mod (fun _ => False) w w6 := t5.trans hM6 (fun _ _ e => e) (fun _ _ e => e)
      have k1 := run_strS (P := Try.prog) w6 26 9 5 Try.underlying26 Try.underlying5 Try.underlying9 (hRb5.keep hM6 (fun _ _ e => e))
      have k2 := run_strS (P := Try.prog) w6 26 9 5 Try.underlying26 Try.underlying5 Try.underlying9 ((Rd.ofOwn hYc).keep hM6 (fun _ _ e => e))
      obtain ⟨X, hX⟩ : ∃ X, strOf BB = X := ⟨_, rfl⟩
      rw [hX] at k1 k2
      clear hX
      obtain ⟨Pd, hPd⟩ : ∃ Pd, (1 + r) * (ns.length : Int) = Pd := ⟨_, rfl⟩
      have hPn : (nb : Int) = Pd + (more.length : Int) := by
        rw [← hPd, HN2.out, Int.natCast_add, Int.natCast_mul, Int.toNat_of_nonneg (by omega)]
      have hP0 : 0 ≤ Pd := by rw [← hPd]; exact Int.mul_nonneg (by omega) (by omega)
      have hP1 : Pd ≤ 340 := by omega
      have hlb2 : ((nb : Int) != Pd + (more.length : Int)) = false := by simp; omega
      clear hPn
      have hp6w : wr.heap.size ≤ p6 := by
        obtain ⟨_, _, _, h3, _⟩ := hR6
        have := hF6 p6 h3
        have := n3.size; have := n5.size
        omega
      have n6 : Mod (fun k => F k ∨ wr.heap.size ≤ k) wr w6 := (n3.trans n5 (H := fun k => F k ∨ wr.heap.size ≤ k) (fun _ _ e => .inr e) (fun _ _ e => .inl e)).trans hM6 (fun _ _ e => e) (fun _ _ e => e.elim)
      have hLr : Rd w6 1 (.slice al ns.length cl) ns.length (ls.map (Value.int .i64)) := (Rd.ofOwn hO').keep n6 (fun k hk hf => by
        rcases hf with h | h
        · exact (hOb k hk).1 h
        · have := hOl k hk; omega)
      have hq6 := hr2.keepA t6 (fun _ _ e => e.elim)
      have hR0 : Rdr w6 p6 (some (enc (1 + r).toNat (ls.drop 0) ++ more)) F6 := by rw [List.drop_zero, HB.out]; exact hR6
      clear hW' hL0 hX1 hB1 n1 t1 hq1 hX2' hB2 hYb hM3 n3 t3 hq3 hW3 hX4 hB4 hX4' hYc hM5 n5 t5 hRb5 hRb5' hM6 n6 hF6 hR6
      go_wp2_with fail
      clear k1 k2 hlb2 hPd
      go_loopw [16] (fun i wx => ∃ j : Nat, j ≤ ns.length ∧ i = .int .i64 j ∧ Rdr wx p6 (some (enc (1 + r).toNat (ls.drop j) ++ more)) F6 ∧ Mod (fun k => k = p6) w6 wx) (fun i _ => ns.length - (intOf i).toNat)
      case atStart => exact ⟨0, Nat.zero_le _, rfl, hR0, Mod.refl _ _⟩
      case round =>
        obtain ⟨j, hj, rfl, hRx, hMx⟩ := hrel
        have hpOwn : ∀ k, (Value.slice al ns.length cl).ownBlock = some k → ¬ k = p6 := fun k hk e => by have := hOl k hk; omega
        have hLx := hLr.keep hMx hpOwn
        by_cases hlt : j < ns.length
        · have hjl : j < ls.length := by rw [HL.out]; exact hlt
          obtain ⟨y, hy⟩ : ∃ y, ls[j] = y := ⟨_, rfl⟩
          have hyM : 0 ≤ y ∧ y < M := by rw [← hy]; exact hin _ (List.getElem_mem hjl)
          have hnum : numR (1 + r) (some (enc (1 + r).toNat (ls.drop j) ++ more)) = (y, some (enc (1 + r).toNat (ls.drop (j + 1)) ++ more)) := by
            rw [numR_enc hM ls more j hjl (by rw [hy]; exact hyM), hy]
          have hyl : ls[j]? = some y := by rw [List.getElem?_eq_getElem hjl, hy]
          have hrg : ∀ b ∈ (some (enc (1 + r).toNat (ls.drop j) ++ more)).getD [], 0 ≤ b ∧ b < 256 := by
            intro b hm
            simp at hm
            rcases hm with h | h
            · exact enc_range _ _ b h
            · exact hb b h
          have hix := fun wz => run_indexS (P := Try.prog) wz 32 3 i3 1 Try.underlying32 hi3 hz3 al ns.length cl j hlt (hLx.some_ (by omega))
          have hc0 : wr.cell? (elemA al j 1) = some (.int .i64 y) := hLx.elem (by rw [List.getElem?_map, hyl]; rfl)
          have hRxd : Rdr wr.drew p6 (some (enc (1 + r).toNat (ls.drop j) ++ more)) F6 := hRx
          have hLxd : Rd wr.drew 1 (.slice al ns.length cl) ns.length (ls.map (Value.int .i64)) := hLx
          have HNUM := Lib.hid hnum
          clear hnum
          clear hy
          go_wp2_with fail
          go_region_with (go_at_call 15; refine (num_any p6 _ _ F6 hRxd hrg (1 + r)).mono ?_; rintro e w1 ⟨rfl, hR1, hM1⟩; rw [HNUM.out] at hR1 ⊢; have hc1 : w1.cell? (elemA al j 1) = some (.int .i64 y) := (hLxd.keep hM1 hpOwn).elem (by rw [List.getElem?_map, hyl]; rfl))
          all_goals
            go_wp2
            go_roundw
            case rel => exact ⟨j + 1, hlt, by go_num, hR1, (hMx.trans (Mod.drew _ _) (fun _ _ e => e) (fun _ _ e => e)).trans hM1 (fun _ _ e => e) (fun _ _ e => e)⟩
            case measure => simp [intOf]; omega
        · obtain rfl : j = ns.length := by omega
          have hRe : Rdr wr p6 (some more) F6 := by
            have := hRx; rw [List.drop_of_length_le (by rw [HL.out]; exact Nat.le_refl _)] at this; simpa [enc] using this
          have tx : Mod (fun _ => False) w wr := t6.trans hMx (fun _ _ e => e) (fun i hi e => by have := hA.1.size; omega)
          have hqx := hr2.keepA tx (fun _ _ e => e.elim)
          clear hRx
          have hRed : Rdr wr.drew p6 (some more) F6 := hRe
          have hT : takeS (more.length : Int) (some more) = (more, some []) := by simp [takeS]
          have HT := Lib.hid hT
          have txd : Mod (fun _ => False) w wr.drew := tx.thenDrew
          have hp6w2 : w.heap.size ≤ p6 := by have := hA.1.size; omega
          obtain ⟨X, hX⟩ : ∃ X, strOf more = X := ⟨_, rfl⟩
          have k0 := run_strS (P := Try.prog) wr.drew 26 9 5 Try.underlying26 Try.underlying5 Try.underlying9 hqx.drew
          rw [hX] at k0
          have HX := Lib.hid hX
          have hml : more.length ≤ 1000000000 := by omega
          clear hT hX hM M0 M1 eM hin hLr hR0 hpOwn hLx hMx tx t6 hq6
          go_wp2_with fail
          go_region_with (first
            | (go_at_call 19; refine (left_any p6 _ _ F6 hRed).mono ?_; rintro e w1 ⟨rfl, rfl⟩)
            | (go_at_call 17; refine (rraw_any p6 _ _ F6 hRed (more.length : Int) hml).mono ?_; rintro e w1 ⟨v1, rfl, hZ, hR1, hM1⟩; rw [HT.out] at hR1 hZ; have k1 := run_strS (P := Try.prog) w1 26 9 5 Try.underlying26 Try.underlying5 Try.underlying9 (Rd.ofOwn hZ); have k2 := run_strS (P := Try.prog) w1 26 9 5 Try.underlying26 Try.underlying5 Try.underlying9 (hr2.keepA (txd.trans hM1 (H := fun _ => False) (fun _ _ e => e) (fun i hi e => by omega)) (fun _ _ e => e.elim)); rw [HX.out] at k1 k2)
            | (go_at_call 21; refine (done_any p6 _ _ F6 hR1).mono ?_; rintro e w2 ⟨rfl, rfl⟩)
            | (go_at_call 8; refine (awake_any _).mono ?_; rintro e w2 ⟨rfl, hM2⟩))
          all_goals
            go_wp2
            go_ret
            exact ⟨rfl, (txd.trans hM1 (H := fun _ => False) (fun _ _ e => e) (fun i hi e => by omega)).trans hM2 (fun _ _ e => e) (fun _ _ e => e)⟩

end Go.Proofs.Ytldnegadkadmkaa
