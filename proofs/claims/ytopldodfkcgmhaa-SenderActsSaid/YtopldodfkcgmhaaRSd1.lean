/- The reference's Sender: Body, Acked, by contract. -/
import Derived.Test.YtopldodfkcgmhaaRSdP
import Derived.Test.YtopldodfkcgmhaaSd5
import Derived.StillTailTactics
import Derived.Deep.QuietTactic
import Derived.BigQuiet
namespace Go.Proofs.Ytopldodfkcgmhaa
open Go.RowKit Mile Go.Maps
set_option maxRecDepth 100000
section
variable {w : World} {q tq W F : Nat} {a : Option Addr} {n c : Nat} {over : Bool} {ta : Option Addr} {tn tc B M R : Nat} {L : List Wt} {us : List Ud}
set_option maxHeartbeats 4000000 in
theorem rsbody_at (h : RS w q tq W F a n c over ta tn tc B M R L us) (hF : F ≤ 1000000000000) (k : Nat) (hk : k < us.length) (s : Int) (hs : s = (F : Int) + (k : Int)) : Calls Try.prog 21 #[.pointer (some ⟨q, 0, none⟩), .int .i64 s] w fun e w' => e = .returned (.tuple #[us[k].v, .bool true]) ∧ w = w' := by
  obtain ⟨iU, hiU, hzU, hsU, hbU⟩ := info_parts RK.infoU
  have HT := Lib.hid h
  have HS := Lib.hid hs
  have c3 := h.blk.cell 3 rfl
  have hlen := h.len
  have hnW := h.nW
  have hW := h.w16
  obtain ⟨av, nv, cv, hbv, _, _⟩ := h.bodies us[k] (List.getElem_mem hk)
  have HBV := Lib.hid hbv
  clear h hs hbv
  rw [HBV.out]
  go_enter Try.func21, Try.ntmps21
  go_wp2_with fail
  go_loopw [6] (fun iv wr => ∃ j : Nat, iv = .int .i64 j ∧ j ≤ k ∧ w = wr) (fun iv _ => n - (intOf iv).toNat)
  case atStart => exact ⟨0, rfl, Nat.zero_le _, rfl⟩
  case round =>
    obtain ⟨j, rfl, hj, rfl⟩ := hrel
    have hjn : j < n := by omega
    have y0 : decide ((j : Int) < (n : Int)) = true := by simp; omega
    have y1 : decide (j < n) = true := by simpa using hjn
    have hjl : j < us.length := by omega
    obtain ⟨eb, eo, hpl, e0, e1⟩ := rd2u HT.out.rd j hjl
    have hix := fun wx => run_indexS (P := Try.prog) wx 53 72 iU 2 Try.underlying53 hiU hsU a n c j hjn (HT.out.rd.some_ (by omega))
    rw [hpl] at hix
    rw [HT.out.seqs j hjl] at e0
    obtain ⟨x, hx⟩ : ∃ x, F + j = x := ⟨_, rfl⟩
    rw [hx] at e0
    clear hpl
    by_cases hjk : j < k
    case pos =>
      have y2 : ((x : Int) == s) = false := by have := HS.out; simp; omega
      clear e1
      go_wp2_with fail
      go_roundw
      case rel => exact ⟨j + 1, by go_num, hjk, trivial⟩
      case measure => simp [intOf]; omega
    case neg =>
      obtain rfl : j = k := by omega
      rw [HBV.out] at e1
      have y2 : ((x : Int) == s) = true := by have := HS.out; simp; omega
      go_wp2_with fail
      go_ret2
      exact ⟨rfl, rfl⟩
set_option maxHeartbeats 4000000 in
theorem rsbody_no (h : RS w q tq W F a n c over ta tn tc B M R L us) (hF : F ≤ 1000000000000) (s : Int) (hs : s < (F : Int) ∨ ((F + n : Nat) : Int) ≤ s) : Calls Try.prog 21 #[.pointer (some ⟨q, 0, none⟩), .int .i64 s] w fun e w' => e = .returned (.tuple #[.slice none 0 0, .bool false]) ∧ w = w' := by
  obtain ⟨iU, hiU, hzU, hsU, hbU⟩ := info_parts RK.infoU
  have HT := Lib.hid h
  have HS := Lib.hid hs
  have c3 := h.blk.cell 3 rfl
  have hlen := h.len
  have hnW := h.nW
  have hW := h.w16
  clear h hs
  go_enter Try.func21, Try.ntmps21
  go_wp2_with fail
  go_loopw [6] (fun iv wr => ∃ j : Nat, iv = .int .i64 j ∧ j ≤ n ∧ w = wr) (fun iv _ => n - (intOf iv).toNat)
  case atStart => exact ⟨0, rfl, Nat.zero_le _, rfl⟩
  case round =>
    obtain ⟨j, rfl, hj, rfl⟩ := hrel
    by_cases hjn : j < n
    case neg =>
      have y0 : decide ((j : Int) < (n : Int)) = false := by simp; omega
      have y1 : decide (j < n) = false := by simpa using hjn
      go_wp2_with fail
      go_ret2
      exact ⟨rfl, rfl⟩
    case pos =>
      have y0 : decide ((j : Int) < (n : Int)) = true := by simp; omega
      have y1 : decide (j < n) = true := by simpa using hjn
      have hjl : j < us.length := by omega
      obtain ⟨eb, eo, hpl, e0, e1⟩ := rd2u HT.out.rd j hjl
      have hix := fun wx => run_indexS (P := Try.prog) wx 53 72 iU 2 Try.underlying53 hiU hsU a n c j hjn (HT.out.rd.some_ (by omega))
      rw [hpl] at hix
      rw [HT.out.seqs j hjl] at e0
      obtain ⟨x, hx⟩ : ∃ x, F + j = x := ⟨_, rfl⟩
      rw [hx] at e0
      have y2 : ((x : Int) == s) = false := by have := HS.out; simp; omega
      clear hpl e1
      go_wp2_with fail
      go_roundw
      case rel => exact ⟨j + 1, by go_num, by omega, trivial⟩
      case measure => simp [intOf]; omega
theorem rsacked_far (h : RS w q tq W F a n c over ta tn tc B M R L us) (s : Int) (hs : ((F + n : Nat) : Int) < s) : Calls Try.prog 16 #[.pointer (some ⟨q, 0, none⟩), .int .i64 s] w fun e w' => e = .returned (.int .i64 0) ∧ w = w' := by
  have c2 := h.blk.cell 2 rfl
  obtain ⟨x, hx⟩ : ∃ x, F + n = x := ⟨_, rfl⟩
  rw [hx] at c2
  have z0 : decide ((x : Int) < s) = true := by simp; omega
  clear h hs hx
  go_enter Try.func16, Try.ntmps16
  go_wp2_with fail
  go_ret
  exact ⟨rfl, rfl⟩
/-- The first one taken away: what is left. -/
theorem RS.pop {w2 : World} (h : RS w q tq W F a (n + 1) c over ta tn tc B M R L us) {ta' : Option Addr} {tn' tc' : Nat} {L' : List Wt} (ht : RT w2 tq ta' tn' tc' B M R L') (hlow : ∀ k, (Value.slice ta' tn' tc').ownBlock = some k → w.heap.size ≤ k) (hm : Mod (fun k => k = tq) w w2) :
    RS (w2.setCell ⟨q, 3, none⟩ (.slice (dropA a c 1 2) n (c - 1))) q tq W (F + 1) (dropA a c 1 2) n (c - 1) over ta' tn' tc' B M R L' (us.drop 1) ∧ (∀ k, rsB q tq (dropA a c 1 2) n ta' tn' (us.drop 1) k → rsB q tq a (n + 1) ta tn us k ∨ w.heap.size ≤ k) ∧ Mod (fun k => k = q ∨ k = tq) w (w2.setCell ⟨q, 3, none⟩ (.slice (dropA a c 1 2) n (c - 1))) := by
  have h2 := h.tick ht hlow hm
  have hset : Mod (fun k => k = q) w2 (w2.setCell ⟨q, 3, none⟩ (.slice (dropA a c 1 2) n (c - 1))) := Mod.setCell _ _ _ rfl
  have hown : ∀ k, (Value.slice (dropA a c 1 2) n (c - 1)).ownBlock = some k → (Value.slice a (n + 1) c).ownBlock = some k := fun k hk => by rw [← hk]; exact (dropA_own a c 1 2 n (c - 1) (n + 1) c).symm
  have hno : ∀ k, (Value.slice a (n + 1) c).ownBlock = some k → ¬ (k = q ∨ k = tq) := fun k hk e => by have := h2.row k hk e; omega
  have hb := h2.blk.set 3 (.slice (dropA a c 1 2) n (c - 1))
  have hrd := h2.rd.drop (n := 1) (by omega)
  rw [c2U_drop] at hrd
  refine ⟨⟨h2.w1, h2.w16, by rw [List.length_drop, h2.len]; omega, by have := h2.nW; omega, by rw [show F + 1 + n = F + (n + 1) by omega]; exact hb, h2.tm.keep hset (fun e => h2.qt e.symm) (fun k hk e => h2.trow k hk (.inl e)), hrd.keep hset (fun k hk e => hno k (hown k hk) (.inl e)), fun i hi => ?_, fun u hu => (h2.bodies u (List.mem_of_mem_drop hu)).apart hset (fun k hk e => (h2.brow u (List.mem_of_mem_drop hu) k hk).1 e), h2.qt, fun k hk e => absurd e (hno k (hown k hk)), h2.trow, fun u hu => h2.brow u (List.mem_of_mem_drop hu), fun u hu k hk => Nat.lt_of_lt_of_le (h2.blt u (List.mem_of_mem_drop hu) k hk) hset.size⟩, fun k hk => ?_, hm.trans hset (fun _ _ e => .inr e) (fun _ _ e => .inl e)⟩
  · rw [List.getElem_drop]
    have := h2.seqs (1 + i) (by rw [List.length_drop] at hi; omega)
    omega
  · rcases hk with e | e | ⟨e, hn⟩ | ⟨e, hn⟩ | ⟨u, hu, hk⟩
    · exact .inl (.inl e)
    · exact .inl (.inr (.inl e))
    · exact .inl (.inr (.inr (.inl ⟨by rw [← e]; exact (dropA_own a c 1 2 0 0 0 0).symm, by omega⟩)))
    · exact .inr (hlow k (by rw [← e]; exact own_slice ta' tn' tc' 0 0))
    · exact .inl (.inr (.inr (.inr (.inr ⟨u, List.mem_of_mem_drop hu, hk⟩))))
set_option maxHeartbeats 8000000 in
theorem rsacked_any (h : RS w q tq W F a n c over ta tn tc B M R L us) (hF : F ≤ 1000000000000) (hL : L.length ≤ 1000000) (K : Nat) (hK : K ≤ n) (s : Int) (hs : s = ((F + K : Nat) : Int) ∨ (K = 0 ∧ s ≤ (F : Int))) : Calls Try.prog 16 #[.pointer (some ⟨q, 0, none⟩), .int .i64 s] w fun e w' => e = .returned (.int .i64 (K : Int)) ∧ RsQ q tq a n ta tn us W (F + K) (n - K) over B M R (stopN L F K) ((us.drop K).map (·.body)) w w' := by
  obtain ⟨iU, hiU, hzU, hsU, hbU⟩ := info_parts RK.infoU
  have HT := Lib.hid h
  have HS := Lib.hid hs
  have HLL := Lib.hid hL
  have c2 := h.blk.cell 2 rfl
  have hlen := h.len
  have hnW := h.nW
  have hW := h.w16
  obtain ⟨x, hx⟩ : ∃ x, F + n = x := ⟨_, rfl⟩
  rw [hx] at c2
  have z0 : decide ((x : Int) < s) = false := by have := HS.out; simp; omega
  have hslen : ∀ j, (stopN L F j).length ≤ L.length := fun j => by
    induction j with
    | zero => exact Nat.le_refl _
    | succ j ih => rw [stopN_succ]; exact Nat.le_trans (stopW_sub _ _).length_le ih
  have HSL := Lib.hid hslen
  clear h hs hL hslen
  go_enter Try.func16, Try.ntmps16
  go_wp2_with fail
  go_loopw [5] (fun v wr => ∃ (j m : Nat) (a' : Option Addr) (c' : Nat) (ta' : Option Addr) (tn' tc' : Nat), v = .int .i64 j ∧ j ≤ K ∧ j + m = n ∧ RS wr q tq W (F + j) a' m c' over ta' tn' tc' B M R (stopN L F j) (us.drop j) ∧ (∀ k, rsB q tq a' m ta' tn' (us.drop j) k → rsB q tq a n ta tn us k ∨ w.heap.size ≤ k) ∧ Mod (fun k => k = q ∨ k = tq) w wr) (fun v _ => n - (intOf v).toNat)
  case atStart => exact ⟨0, n, a, c, ta, tn, tc, rfl, Nat.zero_le _, Nat.zero_add _, HT.out, fun _ e => .inl e, Mod.refl _ _⟩
  case round =>
    obtain ⟨j, m, a1, c1, ta1, tn1, tc1, rfl, hj, hjm, hrs, hsub, hmd⟩ := hrel
    obtain ⟨wo, hwo⟩ : ∃ x : World, x = wr := ⟨_, rfl⟩
    subst hwo
    have HR1 := Lib.hid hrs
    have HSB := Lib.hid hsub
    have HMD := Lib.hid hmd
    have g3 := hrs.blk.cell 3 rfl
    have hl1 := hrs.len
    clear hrs hsub hmd c2
    obtain rfl | ⟨m', rfl⟩ : m = 0 ∨ ∃ m', m = m' + 1 := by cases m with | zero => exact .inl rfl | succ m' => exact .inr ⟨m', rfl⟩
    · have hjK : K = j := by omega
      subst hjK
      go_wp2_with fail
      go_ret
      rw [show n - K = 0 by omega]
      exact ⟨rfl, a1, c1, ta1, tn1, tc1, us.drop K, rfl, HR1.out, HSB.out, HMD.out⟩
    · have hnk : n - j = m' + 1 := by omega
      obtain ⟨eb, eo, hpl, e0, e1⟩ := rd2u HR1.out.rd 0 (by rw [hl1]; omega)
      have hix : ∀ wx, (Instr.indexAt 53 (.slice a1 (m' + 1) c1) (.int .i64 0)).run Try.prog wx = .ok (.pointer (some ⟨eb, eo, none⟩)) wx := fun wx => by
        have h := run_indexS (P := Try.prog) wx 53 72 iU 2 Try.underlying53 hiU hsU a1 (m' + 1) c1 0 (by omega) (HR1.out.rd.some_ (by omega)); rw [hpl] at h; exact h
      rw [HR1.out.seqs 0 (by rw [hl1]; omega), Nat.add_zero] at e0
      have y0 : decide ((0 : Int) < ((m' + 1 : Nat) : Int)) = true := decide_eq_true (by omega)
      have y0b : decide ((0 : Int) < (m' : Int) + 1) = true := decide_eq_true (by omega)
      obtain ⟨x2, hx2⟩ : ∃ x, F + j = x := ⟨_, rfl⟩
      rw [hx2] at e0
      have HX2 := Lib.hid hx2
      by_cases hjK : j < K
      case neg =>
        obtain rfl : K = j := by omega
        have y1 : decide ((x2 : Int) < s) = false := by have := HS.out; simp; omega
        clear e1 hpl hx2
        go_wp2_with fail
        go_ret
        rw [hnk]
        exact ⟨rfl, a1, c1, ta1, tn1, tc1, us.drop K, rfl, HR1.out, HSB.out, HMD.out⟩
      case pos =>
        have y1 : decide ((x2 : Int) < s) = true := by have := HS.out; simp; omega
        have g0 := HR1.out.blk.cell 0 rfl
        clear e1 hpl hx2
        go_wp2_with fail
        go_still_tail 11, (by kernel_rfl)
        change wpList _ _ _ _ _ (World.drew wo)
        go_wp2_with fail
        have hrd := HR1.out.later (Mod.drew (fun _ => False) wo)
        refine (rtstop_any _ tq ta1 tn1 tc1 B M R _ hrd.tm (by have h1 := hrd.tm.len; have h2 := HSL.out j; have h3 := HLL.out; omega) (x2 : Int)).mono ?_
        rintro e w2 ⟨rfl, ta2, tn2, tc2, ht2, hlow, hm2⟩
        obtain ⟨hrs2, hsub2, hmd2⟩ := hrd.pop ht2 hlow hm2
        have h2b := hrd.blk.keep hm2 hrd.qt
        have q3 := h2b.cell 3 rfl
        have f3 := h2b.free 3
        have l3 := h2b.lt
        have HRS2 := Lib.hid hrs2
        have HSB2 := Lib.hid hsub2
        have HMD2 := Lib.hid hmd2
        have hdk : ∀ wx, (Instr.slice 53 (.slice a1 (m' + 1) c1) (some (.int .i64 1)) none none).run Try.prog wx = .ok (.slice (dropA a1 c1 1 2) m' (c1 - 1)) wx := fun wx => run_dropS (P := Try.prog) wx 53 72 iU 2 Try.underlying53 hiU hsU a1 (m' + 1) c1 1 (by omega)
        clear hrd ht2 hlow hm2 hrs2 hsub2 hmd2 h2b g0 g3 e0
        go_wp2_with fail
        have hstn : stopW (stopN L F j) (x2 : Int) = stopN L F (j + 1) := by rw [stopN_succ, HX2.out]
        have hdd : (us.drop j).drop 1 = us.drop (j + 1) := by rw [List.drop_drop]
        have HRS3 := HRS2.out
        have HSB3 := HSB2.out
        rw [hstn, hdd] at HRS3
        rw [hdd] at HSB3
        go_roundw
        case rel => exact ⟨j + 1, m', _, _, _, _, _, by go_num, hjK, by omega, HRS3, fun k hk => (HSB3 k hk).elim (HSB.out k) (fun e => .inr (Nat.le_trans HMD.out.size e)), HMD.out.trans ((Mod.drew (fun k => k = q ∨ k = tq) wo).trans HMD2.out (fun _ _ e => e) (fun _ _ e => e)) (fun _ _ e => e) (fun _ _ e => e)⟩
        case measure => simp [intOf]; omega
end
end Go.Proofs.Ytopldodfkcgmhaa
