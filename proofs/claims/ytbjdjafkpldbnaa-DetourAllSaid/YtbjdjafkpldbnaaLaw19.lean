/- What law 19 asks again and again: rows of how far, closed rows made of numbers. -/
import Derived.Test.YtbjdjafkpldbnaaSd19i
import Derived.Test.YtbjdjafkpldbnaaBtw
import Derived.Test.YtbjdjafkpldbnaaDistF
import Derived.Test.YtbjdjafkpldbnaaRDistF
import Derived.Test.YtbjdjafkpldbnaaTown3
import Derived.Test.YtbjdjafkpldbnaaInts
import Derived.Test.YtbjdjafkpldbnaaRound
import Derived.Test.YtbjdjafkpldbnaaMade19
namespace Go.Proofs.Ytbjdjafkpldbnaa
open Go.RowKit Mile
set_option maxRecDepth 100000
/-- A row of numbers of which P holds. -/
def VFar (P : List Int → Prop) : Value → World → Prop := fun v W => ∃ a n c xs, v = .slice a n c ∧ xs.length = n ∧ n ≤ 512 ∧ Rd W 1 (.slice a n c) n (xs.map (Value.int .i64)) ∧ P xs
theorem VFar.st {P : List Int → Prop} : ∀ v w w', VFar P v w → Mod (fun _ => False) w w' → VFar P v w' := fun _ _ _ ⟨a, n, c, xs, h1, h2, h3, h4, h5⟩ m => ⟨a, n, c, xs, h1, h2, h3, h4.keep m (fun _ _ e => e), h5⟩
def TFar (G : GD) (hm : May G) (v : Int) (cl : List Bool) (xs : List Int) : Prop := ((0 ≤ v ∧ v < (G.N.length : Int)) ∧ Fix (webTo G hm v cl) xs) ∨ (¬ (0 ≤ v ∧ v < (G.N.length : Int)) ∧ xs = [])
def FFar (G : GD) (hm : May G) (v : Int) (cl : List Bool) (xs : List Int) : Prop := ((0 ≤ v ∧ v < (G.E.length : Int)) ∧ Fix (webFrom G hm v cl) xs) ∨ (¬ (0 ≤ v ∧ v < (G.E.length : Int)) ∧ xs = [])
theorem TFar.uniq {G : GD} {hm : May G} {v : Int} {cl : List Bool} : ∀ xs ys, TFar G hm v cl xs → TFar G hm v cl ys → xs = ys := by
  rintro xs ys (⟨h1, h2⟩ | ⟨h1, h2⟩) (⟨k1, k2⟩ | ⟨k1, k2⟩)
  · exact h2.uniq k2
  · exact absurd h1 k1
  · exact absurd k1 h1
  · rw [h2, k2]
theorem FFar.uniq {G : GD} {hm : May G} {v : Int} {cl : List Bool} : ∀ xs ys, FFar G hm v cl xs → FFar G hm v cl ys → xs = ys := by
  rintro xs ys (⟨h1, h2⟩ | ⟨h1, h2⟩) (⟨k1, k2⟩ | ⟨k1, k2⟩)
  · exact h2.uniq k2
  · exact absurd h1 k1
  · exact absurd k1 h1
  · rw [h2, k2]
theorem vfar_row {X : Web} {P : List Int → Prop} {B0 : Nat} {x : Value} {w : World} (h : DRow X B0 x w) (hm : X.m ≤ 512) (hp : ∀ d, Fix X d → P d) : VFar P x w := by
  obtain ⟨rb, d, rfl, ho, hf⟩ := h
  exact ⟨_, _, _, d, rfl, hf.len, hm, Rd.ofOwn ho, hp d hf⟩
theorem vfar_nil {P : List Int → Prop} (w : World) (h : P []) : VFar P (.slice none 0 0) w := ⟨none, 0, 0, [], rfl, rfl, by omega, Rd.nil _ _, h⟩
def FarP (P : List Int → Prop) (w : World) (e : Ending) (w' : World) : Prop := ∃ x, e = .returned x ∧ VFar P x w' ∧ Mod (fun _ => False) w w'
theorem dto_far (t p B C : Nat) (G : GD) (hm : May G) (w : World) (h : TO w t p B C G) (v : Int) (a : Option Addr) (n c : Nat) (cl : List Bool) (hn : cl.length = n) (hr : Rd w 1 (.slice a n c) n (cl.map Value.bool)) :
    Calls Try.prog 31 #[.pointer (some ⟨t, 0, none⟩), .int .i64 v, .slice a n c] w (FarP (TFar G hm v cl) w) := by
  refine (dto_any t p B C G hm w h v a n c cl hn hr).mono ?_
  rintro e w' (⟨hv, x, he, hd, hm'⟩ | ⟨hv, he, hm'⟩)
  · exact ⟨x, he, vfar_row hd hm.1.2.1 (fun d hf => .inl ⟨hv, hf⟩), hm'⟩
  · exact ⟨_, he, vfar_nil _ (.inr ⟨hv, rfl⟩), hm'⟩
theorem dfrom_far (t p B C : Nat) (G : GD) (hm : May G) (w : World) (h : TO w t p B C G) (v : Int) (a : Option Addr) (n c : Nat) (cl : List Bool) (hn : cl.length = n) (hr : Rd w 1 (.slice a n c) n (cl.map Value.bool)) :
    Calls Try.prog 30 #[.pointer (some ⟨t, 0, none⟩), .int .i64 v, .slice a n c] w (FarP (FFar G hm v cl) w) := by
  refine (dfrom_any t p B C G hm w h v a n c cl hn hr).mono ?_
  rintro e w' (⟨hv, x, he, hd, hm'⟩ | ⟨hv, he, hm'⟩)
  · exact ⟨x, he, vfar_row hd hm.1.2.1 (fun d hf => .inl ⟨hv, hf⟩), hm'⟩
  · exact ⟨_, he, vfar_nil _ (.inr ⟨hv, rfl⟩), hm'⟩
theorem r4to_far (G : GD) (hm : May G) (w : World) (a1 : Option Addr) (n1 d1 : Nat) (a2 : Option Addr) (n2 d2 : Nat) (a3 : Option Addr) (n3 d3 : Nat) (h : GV w a1 n1 d1 a2 n2 d2 a3 n3 d3 G) (v : Int) (a : Option Addr) (n c : Nat) (cl : List Bool) (hn : cl.length = n) (hr : Rd w 1 (.slice a n c) n (cl.map Value.bool)) :
    Calls Try.prog 16 #[.agg #[.slice a1 n1 d1, .slice a2 n2 d2, .slice a3 n3 d3], .int .i64 v, .slice a n c] w (FarP (TFar G hm v cl) w) := by
  refine (r4to_any G hm w a1 n1 d1 a2 n2 d2 a3 n3 d3 h v a n c cl hn hr).mono ?_
  rintro e w' (⟨hv, x, he, hd, hm'⟩ | ⟨hv, he, hm'⟩)
  · exact ⟨x, he, vfar_row hd hm.1.2.1 (fun d hf => .inl ⟨hv, hf⟩), hm'⟩
  · exact ⟨_, he, vfar_nil _ (.inr ⟨hv, rfl⟩), hm'⟩
theorem r4from_far (G : GD) (hm : May G) (w : World) (a1 : Option Addr) (n1 d1 : Nat) (a2 : Option Addr) (n2 d2 : Nat) (a3 : Option Addr) (n3 d3 : Nat) (h : GV w a1 n1 d1 a2 n2 d2 a3 n3 d3 G) (v : Int) (a : Option Addr) (n c : Nat) (cl : List Bool) (hn : cl.length = n) (hr : Rd w 1 (.slice a n c) n (cl.map Value.bool)) :
    Calls Try.prog 15 #[.agg #[.slice a1 n1 d1, .slice a2 n2 d2, .slice a3 n3 d3], .int .i64 v, .slice a n c] w (FarP (FFar G hm v cl) w) := by
  refine (r4from_any G hm w a1 n1 d1 a2 n2 d2 a3 n3 d3 h v a n c cl hn hr).mono ?_
  rintro e w' (⟨hv, x, he, hd, hm'⟩ | ⟨hv, he, hm'⟩)
  · exact ⟨x, he, vfar_row hd hm.1.2.1 (fun d hf => .inl ⟨hv, hf⟩), hm'⟩
  · exact ⟨_, he, vfar_nil _ (.inr ⟨hv, rfl⟩), hm'⟩
/-- Which edges are closed, by numbers. -/
def shutL (m : Nat) (l : List Int) : List Bool := l.foldl (fun c x => c.set (x % (m : Int)).toNat true) (List.replicate m false)
theorem shutL_len' (m : Nat) : ∀ (l : List Int) (c : List Bool), c.length = m → (l.foldl (fun c x => c.set (x % (m : Int)).toNat true) c).length = m
  | [], c, h => h
  | x :: l, c, h => by rw [List.foldl_cons]; exact shutL_len' m l _ (by rw [List.length_set]; exact h)
theorem shutL_len (m : Nat) (l : List Int) : (shutL m l).length = m := shutL_len' m l _ (by simp)
theorem shutL_take (m : Nat) (l : List Int) (k : Nat) (h : k < l.length) : shutL m (l.take (k + 1)) = (shutL m (l.take k)).set (l[k] % (m : Int)).toNat true := by
  unfold shutL
  rw [List.take_succ_eq_append_getElem h, List.foldl_append]
  rfl
set_option maxHeartbeats 4000000 in
theorem shut_any (G : GD) (hm1 : 1 ≤ G.E.length) (w : World) (a1 : Option Addr) (n1 d1 : Nat) (a2 : Option Addr) (n2 d2 : Nat) (a3 : Option Addr) (n3 d3 : Nat) (h : GV w a1 n1 d1 a2 n2 d2 a3 n3 d3 G) (hes : n2 ≤ 512) (a : Option Addr) (n c : Nat) (l : List Int) (hn : l.length = n) (hr : Rd w 1 (.slice a n c) n (l.map (Value.int .i64))) (hnb : n ≤ 100000) :
    Calls Try.prog 9 #[.agg #[.slice a1 n1 d1, .slice a2 n2 d2, .slice a3 n3 d3], .slice a n c] w fun e w' => ∃ rb, e = .returned (.slice (some ⟨rb, 0, none⟩) n2 n2) ∧ w'.ownsRow w.heap.size 4 1 (.slice (some ⟨rb, 0, none⟩) n2 n2) n2 ((shutL n2 l).map Value.bool) ∧ Mod (fun _ => False) w w' := by
  obtain ⟨iI, hiI, hzI, hsI, hbI⟩ := info_parts GR.infoI
  obtain ⟨iB, hiB, hzB, hsB, hbB⟩ := info_parts GR.infoBo
  have hn1 : 1 ≤ n2 := by rw [← h.e]; exact hm1
  obtain ⟨bx, hbx⟩ : ∃ b, w.heap.size = b := ⟨_, rfl⟩
  obtain ⟨w0, hw0⟩ : ∃ W, w.alloc (.cells #[.slice a1 n1 d1, .slice a2 n2 d2, .slice a3 n3 d3] 28) = W := ⟨_, rfl⟩
  have hB : Blk w0 bx 28 [.slice a1 n1 d1, .slice a2 n2 d2, .slice a3 n3 d3] := by rw [← hw0, ← hbx]; exact Blk.new _ _ [.slice a1 n1 d1, .slice a2 n2 d2, .slice a3 n3 d3]
  have hm0 : Mod (fun _ => False) w w0 := by rw [← hw0]; exact Mod.alloc _ _ _
  have q0 := hB.cell 0 rfl
  have q1 := hB.cell 1 rfl
  have q2 := hB.cell 2 rfl
  have hmk := run_makeS (P := Try.prog) 32 4 iB (.bool false) Try.underlying32 hiB hzB rfl hsB n2 (by rw [hbB]; omega) (by omega) w0
  have ho0 := own_zrow w0 4 (.bool false) n2 w0.heap.size rfl (by omega)
  obtain ⟨rb, hrb⟩ : ∃ b, w0.heap.size = b := ⟨_, rfl⟩
  obtain ⟨w1, hw1⟩ : ∃ W, w0.alloc (.cells (zrow (.bool false) n2) 4) = W := ⟨_, rfl⟩
  have hm1 : Mod (fun _ => False) w0 w1 := by rw [← hw1]; exact Mod.alloc _ _ _
  rw [hw1, hrb] at hmk ho0
  have HR := Lib.hid hr
  have HN := Lib.hid hn
  have HM1 := Lib.hid (hm0.of2 hm1)
  have HO := Lib.hid (show w1.ownsRow 0 4 1 (.slice (some ⟨rb, 0, none⟩) n2 n2) n2 ((shutL n2 (l.take 0)).map Value.bool) from by
    have e : (shutL n2 (l.take 0)).map Value.bool = List.replicate n2 (Value.bool false) := by simp [shutL]
    rw [e]; exact ho0)
  have HRB := Lib.hid (show w.heap.size ≤ rb from by rw [← hrb]; exact hm0.size)
  clear h hr hn hm0 hm1 ho0 hB
  go_enter Try.func9, Try.ntmps9
  go_upto_region 1 with fail
  try rw [hw0]
  try rw [hbx]
  clear hw0 hbx
  go_wp2_with fail
  clear q0 q1 q2 hmk hw1 hrb
  go_loopw [6] (fun i wr => ∃ k : Nat, k ≤ n ∧ i = .int .i64 k ∧ World.ownsRow wr 0 4 1 (.slice (some ⟨rb, 0, none⟩) n2 n2) n2 ((shutL n2 (l.take k)).map Value.bool) ∧ Mod (fun _ => False) w wr) (fun i _ => n - (intOf i).toNat)
  case atStart => exact ⟨0, by omega, rfl, HO.out, HM1.out⟩
  case round =>
    clear HO HM1
    obtain ⟨k, hk, rfl, hrow, hmr⟩ := hrel
    obtain ⟨wo, hwo⟩ : ∃ x : World, x = wr := ⟨_, rfl⟩
    subst hwo
    have HROW := Lib.hid hrow
    have HMR := Lib.hid hmr
    clear hrow hmr
    by_cases hlt : k < n
    case pos =>
      have z0 : decide ((k : Int) < (n : Int)) = true := by simp; omega
      have hkl : k < l.length := by rw [HN.out]; exact hlt
      have hr1 := HR.out.keep HMR.out (fun _ _ e => e)
      obtain ⟨eb, eo, hpl, e0⟩ := rd1 hr1 k hkl
      have hix := fun wx => run_indexS (P := Try.prog) wx 22 3 iI 1 Try.underlying22 hiI hsI a n c k hlt (hr1.some_ (by omega))
      rw [hpl] at hix
      obtain ⟨x, hx⟩ : ∃ x, l[k] = x := ⟨_, rfl⟩
      have hst := shutL_take n2 l k hkl
      rw [hx] at e0 hst
      have h0 := Int.emod_nonneg x (b := (n2 : Int)) (by omega)
      have h1 := Int.emod_lt_of_pos x (b := (n2 : Int)) (by omega)
      obtain ⟨j, hj⟩ := Int.eq_ofNat_of_zero_le h0
      rw [hj] at h1 hst
      rw [Int.toNat_natCast] at hst
      have hjn : j < n2 := by omega
      have hxb : ∀ wx, (Instr.indexAt 32 (.slice (some ⟨rb, 0, none⟩) n2 n2) (.int .i64 (j : Int))).run Try.prog wx = .ok (.pointer (some ⟨rb, j, none⟩)) wx := fun wx => by
        have h := run_indexS (P := Try.prog) wx 32 4 iB 1 Try.underlying32 hiB hsB (some ⟨rb, 0, none⟩) n2 n2 j hjn (by simp)
        have hp := (show elemA (some ⟨rb, 0, none⟩) j 1 = ⟨rb, j, none⟩ by unfold elemA; rw [Option.getD_some, Addr.add_lit, Nat.zero_add, Nat.mul_one])
        rw [hp] at h; exact h
      have hroom := Room.ofOwn HROW.out j (by omega)
      obtain ⟨v0, q0⟩ := hroom.cell
      have q1 := hroom.free
      have hso := (HROW.out.stored j (.bool true)).1
      rw [← List.map_set, ← hst] at hso
      have HSO := Lib.hid hso
      have HJ := Lib.hid hj
      clear hso hst hroom hx hpl hr1 hj h0 h1
      go_wp2_with fail
      refine (round24_any x (n2 : Int) wo (by omega) (by omega)).mono ?_
      rintro e w2 ⟨rfl, rfl⟩
      rw [HJ.out]
      go_wp2_with fail
      go_roundw
      case rel => exact ⟨k + 1, hlt, by go_num, HSO.out, HMR.out.old (Mod.setCell (F := fun i => i = rb) _ _ _ rfl) (fun i hi => by have h1 := HRB.out; have h2 : i = rb := hi; omega)⟩
      case measure => simp [intOf]; omega
    case neg =>
      have hkn : k = n := by omega
      subst hkn
      have z0 : decide ((k : Int) < (k : Int)) = false := by simp
      go_wp2_with fail
      go_ret
      refine ⟨rb, rfl, ?_, HMR.out⟩
      have h := HROW.out
      rw [List.take_of_length_le (by rw [HN.out]; exact Nat.le_refl _)] at h
      exact Own.rebase h (low_lit HRB.out)
end Go.Proofs.Ytbjdjafkpldbnaa
