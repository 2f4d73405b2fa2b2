/- file's readNode, readEdge, readBan, rows and read by contract. -/
import Derived.Test.YtdccpikddhpleaaEnc6
import Derived.Test.YtdccpikddhpleaaFr2
import Derived.Test.YtdccpikddhpleaaRdrL
import Derived.Test.YtdccpikddhpleaaShp
import Derived.Deep.DeepCutAuto
import Derived.Deep.CutBlock
namespace Go.Proofs.Ytdccpikddhpleaa
open Go.RowKit Mile
set_option maxRecDepth 100000
abbrev RS := Option (List Int)
def RgS (s : RS) : Prop := ∀ b ∈ s.getD [], 0 ≤ b ∧ b < 256
theorem rg_take {s : RS} (n : Int) (h : RgS s) : RgS (takeS n s).2 := by
  unfold takeS
  split
  · cases s with
    | none => intro b hb; simp at hb
    | some l => intro b hb; exact h b (List.mem_of_mem_drop hb)
  · intro b hb; simp at hb
theorem rg_num {s : RS} (h : RgS s) : RgS (numR 2 s).2 := by
  unfold numR; rw [if_pos (by decide)]; exact rg_take 2 h
theorem undigs2 (l : List Int) (h : ∀ b ∈ l, 0 ≤ b ∧ b < 256) (hl : l.length ≤ 2) : 0 ≤ undigs 0 l ∧ undigs 0 l < 65536 := by
  match l, hl with
  | [], _ => simp [undigs]
  | [x], _ => have := h x (by simp); simp [undigs]; omega
  | [x, y], _ => have := h x (by simp); have := h y (by simp); simp [undigs]; omega
theorem num2_range {s : RS} (h : RgS s) : 0 ≤ (numR 2 s).1 ∧ (numR 2 s).1 < 65536 := by
  unfold numR
  rw [if_pos (by decide)]
  refine undigs2 _ (fun b hb => ?_) (by have := takeS_len 2 s; simp at this; omega)
  unfold takeS at hb
  split at hb
  · exact h b (List.mem_of_mem_take hb)
  · simp at hb
def rdNode (s : RS) : P2 × RS := (((numR 2 s).1, (numR 2 (numR 2 s).2).1), (numR 2 (numR 2 s).2).2)
def rdEdge (s : RS) : P3 × RS := (((numR 2 s).1, (numR 2 (numR 2 s).2).1, (numR 2 (numR 2 (numR 2 s).2).2).1), (numR 2 (numR 2 (numR 2 s).2).2).2)
theorem rg_node {s : RS} (h : RgS s) : RgS (rdNode s).2 := rg_num (rg_num h)
theorem rg_edge {s : RS} (h : RgS s) : RgS (rdEdge s).2 := rg_num (rg_num (rg_num h))
def rowsL {α : Type} (rd : RS → α × RS) : Nat → RS → List α × RS
  | 0, s => ([], s)
  | n + 1, s => if (s.getD []).length = 0 then ([], s) else ((rd s).1 :: (rowsL rd n (rd s).2).1, (rowsL rd n (rd s).2).2)
theorem rowsL_stop {α : Type} (rd : RS → α × RS) (n : Nat) (s : RS) (h : (s.getD []).length = 0) : rowsL rd n s = ([], s) := by
  cases n with
  | zero => rfl
  | succ n => rw [rowsL, if_pos h]
theorem rowsL_go {α : Type} (rd : RS → α × RS) (n : Nat) (s : RS) (h : (s.getD []).length ≠ 0) : rowsL rd (n + 1) s = ((rd s).1 :: (rowsL rd n (rd s).2).1, (rowsL rd n (rd s).2).2) := by rw [rowsL, if_neg h]
theorem rowsL_len {α : Type} (rd : RS → α × RS) : ∀ (n : Nat) (s : RS), (rowsL rd n s).1.length ≤ n
  | 0, s => by simp [rowsL]
  | n + 1, s => by rw [rowsL]; split; simp; simp; exact rowsL_len rd n _
theorem rowsL_rg {α : Type} (rd : RS → α × RS) (hrd : ∀ s, RgS s → RgS (rd s).2) : ∀ (n : Nat) (s : RS), RgS s → RgS (rowsL rd n s).2
  | 0, s, h => h
  | n + 1, s, h => by rw [rowsL]; split; exact h; exact rowsL_rg rd hrd n _ (hrd s h)
theorem rdr_lt {w : World} {p : Nat} {s : RS} {F : Nat → Prop} (h : Rdr w p s F) : ∀ k, F k → k < w.heap.size := by obtain ⟨_, _, _, _, _, h5⟩ := h; exact h5
set_option maxHeartbeats 4000000 in
theorem rnode_any (p : Nat) (w : World) (s : RS) (F : Nat → Prop) (h : Rdr w p s F) (hr : RgS s) :
    Calls Try.prog 46 #[.pointer (some ⟨p, 0, none⟩)] w fun e w' => e = .returned (.agg #[.int .i64 (rdNode s).1.1, .int .i64 (rdNode s).1.2]) ∧ Rdr w' p (rdNode s).2 F ∧ Mod (fun k => k = p) w w' := by
  have hself := rdr_self h
  have hlt := rdr_lt h
  obtain ⟨q, hq⟩ : ∃ q, w.heap.size = q := ⟨_, rfl⟩
  obtain ⟨w0, hw0⟩ : ∃ W, w.alloc (.cells #[.int .i64 0, .int .i64 0] 50) = W := ⟨_, rfl⟩
  have hb0 : Blk w0 q 50 [.int .i64 0, .int .i64 0] := by rw [← hw0, ← hq]; exact Blk.new w 50 [.int .i64 0, .int .i64 0]
  have hm0 : Mod (fun _ => False) w w0 := by rw [← hw0]; exact Mod.alloc _ _ _
  have h0 : Rdr w0 p s F := h.keep hm0 (fun _ _ e => e)
  have hpq : ¬ q = p := by have := hlt p hself; omega
  have hqF : ¬ F q := fun e => by have := hlt q e; omega
  have HM0 := Lib.hid hm0
  clear hm0
  clear h
  go_enter Try.func46, Try.ntmps46
  go_upto_region 1 with fail
  try rw [hw0]
  try rw [hq]
  clear hw0
  go_wp2_with fail
  refine (num_any p w0 s F h0 hr 2).mono ?_
  rintro e w1 ⟨rfl, h1, m1⟩
  have hb1 := hb0.keep m1 hpq
  have HM1 := Lib.hid m1
  clear m1 hb0
  go_wp2_with fail
  refine (num_any p w1 (numR 2 s).2 F h1 (rg_num hr) 2).mono ?_
  rintro e w2 ⟨rfl, h2, m2⟩
  have hb2 := hb1.keep m2 hpq
  have HM2 := Lib.hid m2
  clear m2 hb1
  obtain ⟨v0, hv0⟩ : ∃ x, (rdNode s).1.1 = x := ⟨_, rfl⟩
  obtain ⟨v1, hv1⟩ : ∃ x, (rdNode s).1.2 = x := ⟨_, rfl⟩
  have hst : Rdr w2 p (rdNode s).2 F := h2
  have e0 : (numR 2 s).1 = v0 := hv0
  have e1 : (numR 2 (numR 2 s).2).1 = v1 := hv1
  rw [e0]
  rw [e1]
  have HV0 := Lib.hid hv0
  have HV1 := Lib.hid hv1
  have c0 := hb2.cell 0 rfl
  have c1 := hb2.cell 1 rfl
  have f0 := hb2.free 0
  have f1 := hb2.free 1
  have lq := hb2.lt
  have HB := Lib.hid hb2
  have HST := Lib.hid hst
  clear hst hb2 e0 e1 hv0 hv1
  go_wp2_with fail
  have b2 := ((HB.out.set 0 (.int .i64 v0)).set 1 (.int .i64 v1))
  have hm2 := ((Mod.setCell (F := fun k => k = q) (w2) ⟨q, 0, none⟩ (.int .i64 v0) rfl).trans (Mod.setCell (F := fun k => k = q) (World.setCell (w2) ⟨q, 0, none⟩ (.int .i64 v0)) ⟨q, 1, none⟩ (.int .i64 v1) rfl) (fun _ _ e => e) (fun _ _ e => e))
  (try simp only [Exit.inBlock, Exit.then])
  refine bodyPost_ret (results_cell_row rfl _ _ q 50 #[.int .i64 v0, .int .i64 v1] (0, 0) _ rfl b2 Try.underlying50 rfl (by kernel_rfl)) rfl ?_
  exact ⟨by rw [HV0.out, HV1.out], HST.out.keep hm2 (fun k hk e => hqF (by rw [← (show k = q from e)]; exact hk)), (((show Mod (fun k => k = p) w w0 from HM0.out.mono (fun _ _ e => e.elim)).trans HM1.out (fun _ _ e => e) (fun _ _ e => e)).trans HM2.out (fun _ _ e => e) (fun _ _ e => e)).trans hm2 (fun _ _ e => e) (fun i hi e => by have : i = q := e; omega)⟩
set_option maxHeartbeats 4000000 in
theorem redge_any (p : Nat) (w : World) (s : RS) (F : Nat → Prop) (h : Rdr w p s F) (hr : RgS s) :
    Calls Try.prog 48 #[.pointer (some ⟨p, 0, none⟩)] w fun e w' => e = .returned (.agg #[.int .i64 (rdEdge s).1.1, .int .i64 (rdEdge s).1.2.1, .int .i64 (rdEdge s).1.2.2]) ∧ Rdr w' p (rdEdge s).2 F ∧ Mod (fun k => k = p) w w' := by
  have hself := rdr_self h
  have hlt := rdr_lt h
  obtain ⟨q, hq⟩ : ∃ q, w.heap.size = q := ⟨_, rfl⟩
  obtain ⟨w0, hw0⟩ : ∃ W, w.alloc (.cells #[.int .i64 0, .int .i64 0, .int .i64 0] 52) = W := ⟨_, rfl⟩
  have hb0 : Blk w0 q 52 [.int .i64 0, .int .i64 0, .int .i64 0] := by rw [← hw0, ← hq]; exact Blk.new w 52 [.int .i64 0, .int .i64 0, .int .i64 0]
  have hm0 : Mod (fun _ => False) w w0 := by rw [← hw0]; exact Mod.alloc _ _ _
  have h0 : Rdr w0 p s F := h.keep hm0 (fun _ _ e => e)
  have hpq : ¬ q = p := by have := hlt p hself; omega
  have hqF : ¬ F q := fun e => by have := hlt q e; omega
  have HM0 := Lib.hid hm0
  clear hm0
  clear h
  go_enter Try.func48, Try.ntmps48
  go_upto_region 1 with fail
  try rw [hw0]
  try rw [hq]
  clear hw0
  go_wp2_with fail
  refine (num_any p w0 s F h0 hr 2).mono ?_
  rintro e w1 ⟨rfl, h1, m1⟩
  have hb1 := hb0.keep m1 hpq
  have HM1 := Lib.hid m1
  clear m1 hb0
  go_wp2_with fail
  refine (num_any p w1 (numR 2 s).2 F h1 (rg_num hr) 2).mono ?_
  rintro e w2 ⟨rfl, h2, m2⟩
  have hb2 := hb1.keep m2 hpq
  have HM2 := Lib.hid m2
  clear m2 hb1
  go_wp2_with fail
  refine (num_any p w2 (numR 2 (numR 2 s).2).2 F h2 (rg_num (rg_num hr)) 2).mono ?_
  rintro e w3 ⟨rfl, h3, m3⟩
  have hb3 := hb2.keep m3 hpq
  have HM3 := Lib.hid m3
  clear m3 hb2
  obtain ⟨v0, hv0⟩ : ∃ x, (rdEdge s).1.1 = x := ⟨_, rfl⟩
  obtain ⟨v1, hv1⟩ : ∃ x, (rdEdge s).1.2.1 = x := ⟨_, rfl⟩
  obtain ⟨v2, hv2⟩ : ∃ x, (rdEdge s).1.2.2 = x := ⟨_, rfl⟩
  have hst : Rdr w3 p (rdEdge s).2 F := h3
  have e0 : (numR 2 s).1 = v0 := hv0
  have e1 : (numR 2 (numR 2 s).2).1 = v1 := hv1
  have e2 : (numR 2 (numR 2 (numR 2 s).2).2).1 = v2 := hv2
  rw [e0]
  rw [e1]
  rw [e2]
  have HV0 := Lib.hid hv0
  have HV1 := Lib.hid hv1
  have HV2 := Lib.hid hv2
  have c0 := hb3.cell 0 rfl
  have c1 := hb3.cell 1 rfl
  have c2 := hb3.cell 2 rfl
  have f0 := hb3.free 0
  have f1 := hb3.free 1
  have f2 := hb3.free 2
  have lq := hb3.lt
  have HB := Lib.hid hb3
  have HST := Lib.hid hst
  clear hst hb3 e0 e1 e2 hv0 hv1 hv2
  go_wp2_with fail
  have b2 := (((HB.out.set 0 (.int .i64 v0)).set 1 (.int .i64 v1)).set 2 (.int .i64 v2))
  have hm2 := (((Mod.setCell (F := fun k => k = q) (w3) ⟨q, 0, none⟩ (.int .i64 v0) rfl).trans (Mod.setCell (F := fun k => k = q) (World.setCell (w3) ⟨q, 0, none⟩ (.int .i64 v0)) ⟨q, 1, none⟩ (.int .i64 v1) rfl) (fun _ _ e => e) (fun _ _ e => e)).trans (Mod.setCell (F := fun k => k = q) (World.setCell (World.setCell (w3) ⟨q, 0, none⟩ (.int .i64 v0)) ⟨q, 1, none⟩ (.int .i64 v1)) ⟨q, 2, none⟩ (.int .i64 v2) rfl) (fun _ _ e => e) (fun _ _ e => e))
  (try simp only [Exit.inBlock, Exit.then])
  refine bodyPost_ret (results_cell_row rfl _ _ q 52 #[.int .i64 v0, .int .i64 v1, .int .i64 v2] (0, 0) _ rfl b2 Try.underlying52 rfl (by kernel_rfl)) rfl ?_
  exact ⟨by rw [HV0.out, HV1.out, HV2.out], HST.out.keep hm2 (fun k hk e => hqF (by rw [← (show k = q from e)]; exact hk)), ((((show Mod (fun k => k = p) w w0 from HM0.out.mono (fun _ _ e => e.elim)).trans HM1.out (fun _ _ e => e) (fun _ _ e => e)).trans HM2.out (fun _ _ e => e) (fun _ _ e => e)).trans HM3.out (fun _ _ e => e) (fun _ _ e => e)).trans hm2 (fun _ _ e => e) (fun i hi e => by have : i = q := e; omega)⟩
set_option maxHeartbeats 4000000 in
theorem rban_any (p : Nat) (w : World) (s : RS) (F : Nat → Prop) (h : Rdr w p s F) (hr : RgS s) :
    Calls Try.prog 50 #[.pointer (some ⟨p, 0, none⟩)] w fun e w' => e = .returned (.agg #[.int .i64 (rdNode s).1.1, .int .i64 (rdNode s).1.2]) ∧ Rdr w' p (rdNode s).2 F ∧ Mod (fun k => k = p) w w' := by
  have hself := rdr_self h
  have hlt := rdr_lt h
  obtain ⟨q, hq⟩ : ∃ q, w.heap.size = q := ⟨_, rfl⟩
  obtain ⟨w0, hw0⟩ : ∃ W, w.alloc (.cells #[.int .i64 0, .int .i64 0] 63) = W := ⟨_, rfl⟩
  have hb0 : Blk w0 q 63 [.int .i64 0, .int .i64 0] := by rw [← hw0, ← hq]; exact Blk.new w 63 [.int .i64 0, .int .i64 0]
  have hm0 : Mod (fun _ => False) w w0 := by rw [← hw0]; exact Mod.alloc _ _ _
  have h0 : Rdr w0 p s F := h.keep hm0 (fun _ _ e => e)
  have hpq : ¬ q = p := by have := hlt p hself; omega
  have hqF : ¬ F q := fun e => by have := hlt q e; omega
  have HM0 := Lib.hid hm0
  clear hm0
  clear h
  go_enter Try.func50, Try.ntmps50
  go_upto_region 1 with fail
  try rw [hw0]
  try rw [hq]
  clear hw0
  go_wp2_with fail
  refine (num_any p w0 s F h0 hr 2).mono ?_
  rintro e w1 ⟨rfl, h1, m1⟩
  have hb1 := hb0.keep m1 hpq
  have HM1 := Lib.hid m1
  clear m1 hb0
  go_wp2_with fail
  refine (num_any p w1 (numR 2 s).2 F h1 (rg_num hr) 2).mono ?_
  rintro e w2 ⟨rfl, h2, m2⟩
  have hb2 := hb1.keep m2 hpq
  have HM2 := Lib.hid m2
  clear m2 hb1
  obtain ⟨v0, hv0⟩ : ∃ x, (rdNode s).1.1 = x := ⟨_, rfl⟩
  obtain ⟨v1, hv1⟩ : ∃ x, (rdNode s).1.2 = x := ⟨_, rfl⟩
  have hst : Rdr w2 p (rdNode s).2 F := h2
  have e0 : (numR 2 s).1 = v0 := hv0
  have e1 : (numR 2 (numR 2 s).2).1 = v1 := hv1
  rw [e0]
  rw [e1]
  have HV0 := Lib.hid hv0
  have HV1 := Lib.hid hv1
  have c0 := hb2.cell 0 rfl
  have c1 := hb2.cell 1 rfl
  have f0 := hb2.free 0
  have f1 := hb2.free 1
  have lq := hb2.lt
  have HB := Lib.hid hb2
  have HST := Lib.hid hst
  clear hst hb2 e0 e1 hv0 hv1
  go_wp2_with fail
  have b2 := ((HB.out.set 0 (.int .i64 v0)).set 1 (.int .i64 v1))
  have hm2 := ((Mod.setCell (F := fun k => k = q) (w2) ⟨q, 0, none⟩ (.int .i64 v0) rfl).trans (Mod.setCell (F := fun k => k = q) (World.setCell (w2) ⟨q, 0, none⟩ (.int .i64 v0)) ⟨q, 1, none⟩ (.int .i64 v1) rfl) (fun _ _ e => e) (fun _ _ e => e))
  (try simp only [Exit.inBlock, Exit.then])
  refine bodyPost_ret (results_cell_row rfl _ _ q 63 #[.int .i64 v0, .int .i64 v1] (0, 0) _ rfl b2 Try.underlying63 rfl (by kernel_rfl)) rfl ?_
  exact ⟨by rw [HV0.out, HV1.out], HST.out.keep hm2 (fun k hk e => hqF (by rw [← (show k = q from e)]; exact hk)), (((show Mod (fun k => k = p) w w0 from HM0.out.mono (fun _ _ e => e.elim)).trans HM1.out (fun _ _ e => e) (fun _ _ e => e)).trans HM2.out (fun _ _ e => e) (fun _ _ e => e)).trans hm2 (fun _ _ e => e) (fun i hi e => by have : i = q := e; omega)⟩
set_option maxHeartbeats 8000000 in
theorem rows_node (p : Nat) (w : World) (s : RS) (F : Nat → Prop) (h : Rdr w p s F) (hr : RgS s) (n : Nat) (hn : n ≤ 65535) :
    Calls Try.prog 45 #[.pointer (some ⟨p, 0, none⟩), .int .i64 (n : Int), .func (.func 46) #[] #[]] w fun e w' => ∃ a c, e = .returned (.slice a (rowsL rdNode n s).1.length c) ∧ w'.ownsRow w.heap.size 50 2 (.slice a (rowsL rdNode n s).1.length c) (rowsL rdNode n s).1.length ((rowsL rdNode n s).1.flatMap c2) ∧ Rdr w' p (rowsL rdNode n s).2 F ∧ Mod (fun k => k = p) w w' := by
  obtain ⟨iT, hiT, hzT, hsT, hbT⟩ := info_parts GR.infoN
  have hself := rdr_self h
  have hlt := rdr_lt h
  obtain ⟨B0, hB0⟩ : ∃ b, w.heap.size = b := ⟨_, rfl⟩
  have HB0 := Lib.hid hB0
  rw [hB0] at hlt ⊢
  have HLT := Lib.hid hlt
  have hpB : p < B0 := hlt p hself
  have H := Lib.hid h
  have HR := Lib.hid hr
  clear h hr hlt hself hB0
  go_enter Try.func45, Try.ntmps45
  go_wp2_with fail
  go_loopw [7] (fun v wr => ∃ (L : List P2) (ln : Nat) (s1 : RS), L.length = ln ∧ ln ≤ n ∧ World.ownsRow wr B0 50 2 v ln (L.flatMap c2) ∧ Rdr wr p s1 F ∧ RgS s1 ∧ rowsL rdNode n s = (L ++ (rowsL rdNode (n - ln) s1).1, (rowsL rdNode (n - ln) s1).2) ∧ Mod (fun k => k = p) w wr) (fun v _ => n - (match v with | .slice _ k _ => k | _ => 0))
  case atStart => exact ⟨[], 0, s, rfl, by omega, World.ownsRow_nil _ _ _ _, H.out, HR.out, by simp, Mod.refl _ _⟩
  case round =>
    obtain ⟨L, ln, s1, hL, hln, hown, hrd, hrg, hrw, hmr⟩ := hrel
    obtain ⟨wo, hwo⟩ : ∃ x : World, x = wr := ⟨_, rfl⟩
    subst hwo
    obtain ⟨av, cv, rfl⟩ := own_form hown
    have HL := Lib.hid hL
    have HO := Lib.hid hown
    have HD := Lib.hid hrd
    have HG := Lib.hid hrg
    have HRW := Lib.hid hrw
    have HM := Lib.hid hmr
    clear hL hown hrd hrg hrw hmr
    have hend : ∀ (hz : rowsL rdNode (n - ln) s1 = ([], s1)), rowsL rdNode n s = (L, s1) := fun hz => by rw [HRW.out, hz]; simp
    have HE := Lib.hid hend
    clear hend
    by_cases hlt : ln < n
    case neg =>
      have z0 : decide ((ln : Int) < (n : Int)) = false := by simp; omega
      go_wp2_with fail
      go_ret
      have hz : rowsL rdNode (n - ln) s1 = ([], s1) := by rw [show n - ln = 0 by omega]; rfl
      rw [HE.out hz]
      rw [HL.out]
      exact ⟨av, cv, rfl, HO.out, HD.out, HM.out⟩
    case pos =>
      have z0 : decide ((ln : Int) < (n : Int)) = true := by simp; omega
      obtain ⟨lf, hlf⟩ : ∃ k, (s1.getD []).length = k := ⟨_, rfl⟩
      have hleft := left_any p wo s1 F HD.out
      rw [hlf] at hleft
      have HLF := Lib.hid hlf
      have HLE := Lib.hid hleft
      clear hlf hleft
      by_cases hl0 : lf = 0
      case pos =>
        have z1 : decide ((0 : Int) < (lf : Int)) = false := by simp; omega
        have z2 : decide (0 < lf) = false := by simp; omega
        go_wp2_with fail
        refine (HLE.out).mono ?_
        rintro e w' ⟨rfl, rfl⟩
        go_wp2_with fail
        go_ret
        rw [HE.out (rowsL_stop _ _ _ (by rw [HLF.out]; exact hl0)), HL.out]
        exact ⟨av, cv, rfl, HO.out, HD.out, HM.out⟩
      case neg =>
        have z1 : decide ((0 : Int) < (lf : Int)) = true := by simp; omega
        have z2 : decide (0 < lf) = true := by simp; omega
        have hgo : rowsL rdNode (n - ln) s1 = ((rdNode s1).1 :: (rowsL rdNode (n - (ln + 1)) (rdNode s1).2).1, (rowsL rdNode (n - (ln + 1)) (rdNode s1).2).2) := by
          rw [show n - ln = (n - (ln + 1)) + 1 by omega]; exact rowsL_go _ _ _ (by rw [HLF.out]; exact hl0)
        have HGO := Lib.hid hgo
        clear hgo hl0
        go_wp2_with fail
        refine (HLE.out).mono ?_
        rintro e w' ⟨rfl, rfl⟩
        go_wp2_with fail
        refine (rnode_any p wo s1 F HD.out HG.out).mono ?_
        rintro e w2 ⟨rfl, hr2, hm2⟩
        have hcomp : (rdNode s1).1 = ((rdNode s1).1.1, (rdNode s1).1.2) := rfl
        obtain ⟨z0, hvz0⟩ : ∃ x, (rdNode s1).1.1 = x := ⟨_, rfl⟩
        obtain ⟨z1, hvz1⟩ : ∃ x, (rdNode s1).1.2 = x := ⟨_, rfl⟩
        rw [hvz0, hvz1] at hcomp
        rw [hvz0, hvz1]
        have HXX := Lib.hid hcomp
        clear hcomp hvz0 hvz1
        have HR2 := Lib.hid hr2
        have ho2 := Own.keep HO.out hm2 (fun k hk e => by have h1 := (HO.out.lt k hk).1; have h2 : k = p := e; omega)
        have HO2 := Lib.hid ho2
        have HM2 : Hid (Mod (fun k => k = p) w w2) := Lib.hid (HM.out.trans hm2 (fun _ _ e => e) (fun _ _ e => e))
        have H2 : Hid (B0 ≤ w2.heap.size) := Lib.hid (by rw [← HB0.out]; exact HM2.out.size)
        clear hr2 ho2 hm2
        go_wp2_with (at_builtin; refine wpList_append_any rfl (.tmp 17) (.tmp 21) 22 rfl 50 iT (.agg #[.int .i64 0, .int .i64 0]) 2 16 Try.underlying22 hiT hzT hsT hbT rfl (by decide) _ ln _ rfl (World.ownsRow.alloc (Own.base HO2.out (Nat.zero_le _)) _) _ 1 (c2 (z0, z1)) rfl (Rd.litN _ 2 _ _ _ 1 rfl rfl (by decide)) (by intro u hu; simp [c2] at hu; rcases hu with rfl | rfl <;> rfl) (by unfold maxLen; omega) (by omega) ?_; intro v4 w4 hap; obtain ⟨a4, c4, rfl⟩ := hap.form; have ho4 := hap.own; have lo4 := hap.low (B := B0) (by have h1 := H2.out; simp; omega) (fun q hq => (HO2.out.lt q hq).1); have HO4 := Lib.hid (Own.rebase ho4 lo4); have HA4 : Hid (Mod (fun q => B0 ≤ q) w2 w4) := Lib.hid ((Mod.alloc (fun q => B0 ≤ q) w2 _).trans (hap.mod.mono (fun q _ e => (HO2.out.lt q e).1)) (fun _ _ e => e) (fun _ _ e => e)); clear hap ho4 lo4)
        go_roundw
        case rel =>
          refine ⟨L ++ [(z0, z1)], ln + 1, (rdNode s1).2, by rw [List.length_append, HL.out]; rfl, by omega, ?_, HR2.out.keep HA4.out (fun k hk e => by have h1 := HLT.out k hk; have h2 : B0 ≤ k := e; omega), rg_node HG.out, ?_, HM2.out.trans HA4.out (fun _ _ e => e) (fun i hi e => by have h1 := HB0.out; have h2 : B0 ≤ i := e; omega)⟩
          · rw [List.flatMap_append]; simpa using HO4.out
          · rw [HRW.out, HGO.out, HXX.out]; simp
        case measure => show n - (ln + 1) < n - ln; omega
set_option maxHeartbeats 8000000 in
theorem rows_edge (p : Nat) (w : World) (s : RS) (F : Nat → Prop) (h : Rdr w p s F) (hr : RgS s) (n : Nat) (hn : n ≤ 65535) :
    Calls Try.prog 47 #[.pointer (some ⟨p, 0, none⟩), .int .i64 (n : Int), .func (.func 48) #[] #[]] w fun e w' => ∃ a c, e = .returned (.slice a (rowsL rdEdge n s).1.length c) ∧ w'.ownsRow w.heap.size 52 3 (.slice a (rowsL rdEdge n s).1.length c) (rowsL rdEdge n s).1.length ((rowsL rdEdge n s).1.flatMap c3) ∧ Rdr w' p (rowsL rdEdge n s).2 F ∧ Mod (fun k => k = p) w w' := by
  obtain ⟨iT, hiT, hzT, hsT, hbT⟩ := info_parts GR.infoE
  have hself := rdr_self h
  have hlt := rdr_lt h
  obtain ⟨B0, hB0⟩ : ∃ b, w.heap.size = b := ⟨_, rfl⟩
  have HB0 := Lib.hid hB0
  rw [hB0] at hlt ⊢
  have HLT := Lib.hid hlt
  have hpB : p < B0 := hlt p hself
  have H := Lib.hid h
  have HR := Lib.hid hr
  clear h hr hlt hself hB0
  go_enter Try.func47, Try.ntmps47
  go_wp2_with fail
  go_loopw [7] (fun v wr => ∃ (L : List P3) (ln : Nat) (s1 : RS), L.length = ln ∧ ln ≤ n ∧ World.ownsRow wr B0 52 3 v ln (L.flatMap c3) ∧ Rdr wr p s1 F ∧ RgS s1 ∧ rowsL rdEdge n s = (L ++ (rowsL rdEdge (n - ln) s1).1, (rowsL rdEdge (n - ln) s1).2) ∧ Mod (fun k => k = p) w wr) (fun v _ => n - (match v with | .slice _ k _ => k | _ => 0))
  case atStart => exact ⟨[], 0, s, rfl, by omega, World.ownsRow_nil _ _ _ _, H.out, HR.out, by simp, Mod.refl _ _⟩
  case round =>
    obtain ⟨L, ln, s1, hL, hln, hown, hrd, hrg, hrw, hmr⟩ := hrel
    obtain ⟨wo, hwo⟩ : ∃ x : World, x = wr := ⟨_, rfl⟩
    subst hwo
    obtain ⟨av, cv, rfl⟩ := own_form hown
    have HL := Lib.hid hL
    have HO := Lib.hid hown
    have HD := Lib.hid hrd
    have HG := Lib.hid hrg
    have HRW := Lib.hid hrw
    have HM := Lib.hid hmr
    clear hL hown hrd hrg hrw hmr
    have hend : ∀ (hz : rowsL rdEdge (n - ln) s1 = ([], s1)), rowsL rdEdge n s = (L, s1) := fun hz => by rw [HRW.out, hz]; simp
    have HE := Lib.hid hend
    clear hend
    by_cases hlt : ln < n
    case neg =>
      have z0 : decide ((ln : Int) < (n : Int)) = false := by simp; omega
      go_wp2_with fail
      go_ret
      have hz : rowsL rdEdge (n - ln) s1 = ([], s1) := by rw [show n - ln = 0 by omega]; rfl
      rw [HE.out hz]
      rw [HL.out]
      exact ⟨av, cv, rfl, HO.out, HD.out, HM.out⟩
    case pos =>
      have z0 : decide ((ln : Int) < (n : Int)) = true := by simp; omega
      obtain ⟨lf, hlf⟩ : ∃ k, (s1.getD []).length = k := ⟨_, rfl⟩
      have hleft := left_any p wo s1 F HD.out
      rw [hlf] at hleft
      have HLF := Lib.hid hlf
      have HLE := Lib.hid hleft
      clear hlf hleft
      by_cases hl0 : lf = 0
      case pos =>
        have z1 : decide ((0 : Int) < (lf : Int)) = false := by simp; omega
        have z2 : decide (0 < lf) = false := by simp; omega
        go_wp2_with fail
        refine (HLE.out).mono ?_
        rintro e w' ⟨rfl, rfl⟩
        go_wp2_with fail
        go_ret
        rw [HE.out (rowsL_stop _ _ _ (by rw [HLF.out]; exact hl0)), HL.out]
        exact ⟨av, cv, rfl, HO.out, HD.out, HM.out⟩
      case neg =>
        have z1 : decide ((0 : Int) < (lf : Int)) = true := by simp; omega
        have z2 : decide (0 < lf) = true := by simp; omega
        have hgo : rowsL rdEdge (n - ln) s1 = ((rdEdge s1).1 :: (rowsL rdEdge (n - (ln + 1)) (rdEdge s1).2).1, (rowsL rdEdge (n - (ln + 1)) (rdEdge s1).2).2) := by
          rw [show n - ln = (n - (ln + 1)) + 1 by omega]; exact rowsL_go _ _ _ (by rw [HLF.out]; exact hl0)
        have HGO := Lib.hid hgo
        clear hgo hl0
        go_wp2_with fail
        refine (HLE.out).mono ?_
        rintro e w' ⟨rfl, rfl⟩
        go_wp2_with fail
        refine (redge_any p wo s1 F HD.out HG.out).mono ?_
        rintro e w2 ⟨rfl, hr2, hm2⟩
        have hcomp : (rdEdge s1).1 = ((rdEdge s1).1.1, (rdEdge s1).1.2.1, (rdEdge s1).1.2.2) := rfl
        obtain ⟨z0, hvz0⟩ : ∃ x, (rdEdge s1).1.1 = x := ⟨_, rfl⟩
        obtain ⟨z1, hvz1⟩ : ∃ x, (rdEdge s1).1.2.1 = x := ⟨_, rfl⟩
        obtain ⟨z2, hvz2⟩ : ∃ x, (rdEdge s1).1.2.2 = x := ⟨_, rfl⟩
        rw [hvz0, hvz1, hvz2] at hcomp
        rw [hvz0, hvz1, hvz2]
        have HXX := Lib.hid hcomp
        clear hcomp hvz0 hvz1 hvz2
        have HR2 := Lib.hid hr2
        have ho2 := Own.keep HO.out hm2 (fun k hk e => by have h1 := (HO.out.lt k hk).1; have h2 : k = p := e; omega)
        have HO2 := Lib.hid ho2
        have HM2 : Hid (Mod (fun k => k = p) w w2) := Lib.hid (HM.out.trans hm2 (fun _ _ e => e) (fun _ _ e => e))
        have H3 : Hid (B0 ≤ w2.heap.size) := Lib.hid (by rw [← HB0.out]; exact HM2.out.size)
        clear hr2 ho2 hm2
        go_wp2_with (at_builtin; refine wpList_append_any rfl (.tmp 17) (.tmp 21) 23 rfl 52 iT (.agg #[.int .i64 0, .int .i64 0, .int .i64 0]) 3 24 Try.underlying23 hiT hzT hsT hbT rfl (by decide) _ ln _ rfl (World.ownsRow.alloc (Own.base HO2.out (Nat.zero_le _)) _) _ 1 (c3 (z0, z1, z2)) rfl (Rd.litN _ 3 _ _ _ 1 rfl rfl (by decide)) (by intro u hu; simp [c3] at hu; rcases hu with rfl | rfl | rfl <;> rfl) (by unfold maxLen; omega) (by omega) ?_; intro v4 w4 hap; obtain ⟨a4, c4, rfl⟩ := hap.form; have ho4 := hap.own; have lo4 := hap.low (B := B0) (by have h1 := H3.out; simp; omega) (fun q hq => (HO2.out.lt q hq).1); have HO4 := Lib.hid (Own.rebase ho4 lo4); have HA4 : Hid (Mod (fun q => B0 ≤ q) w2 w4) := Lib.hid ((Mod.alloc (fun q => B0 ≤ q) w2 _).trans (hap.mod.mono (fun q _ e => (HO2.out.lt q e).1)) (fun _ _ e => e) (fun _ _ e => e)); clear hap ho4 lo4)
        go_roundw
        case rel =>
          refine ⟨L ++ [(z0, z1, z2)], ln + 1, (rdEdge s1).2, by rw [List.length_append, HL.out]; rfl, by omega, ?_, HR2.out.keep HA4.out (fun k hk e => by have h1 := HLT.out k hk; have h2 : B0 ≤ k := e; omega), rg_edge HG.out, ?_, HM2.out.trans HA4.out (fun _ _ e => e) (fun i hi e => by have h1 := HB0.out; have h2 : B0 ≤ i := e; omega)⟩
          · rw [List.flatMap_append]; simpa using HO4.out
          · rw [HRW.out, HGO.out, HXX.out]; simp
        case measure => show n - (ln + 1) < n - ln; omega
set_option maxHeartbeats 8000000 in
theorem rows_ban (p : Nat) (w : World) (s : RS) (F : Nat → Prop) (h : Rdr w p s F) (hr : RgS s) (n : Nat) (hn : n ≤ 65535) :
    Calls Try.prog 49 #[.pointer (some ⟨p, 0, none⟩), .int .i64 (n : Int), .func (.func 50) #[] #[]] w fun e w' => ∃ a c, e = .returned (.slice a (rowsL rdNode n s).1.length c) ∧ w'.ownsRow w.heap.size 63 2 (.slice a (rowsL rdNode n s).1.length c) (rowsL rdNode n s).1.length ((rowsL rdNode n s).1.flatMap c2) ∧ Rdr w' p (rowsL rdNode n s).2 F ∧ Mod (fun k => k = p) w w' := by
  obtain ⟨iT, hiT, hzT, hsT, hbT⟩ := info_parts GR.infoB
  have hself := rdr_self h
  have hlt := rdr_lt h
  obtain ⟨B0, hB0⟩ : ∃ b, w.heap.size = b := ⟨_, rfl⟩
  have HB0 := Lib.hid hB0
  rw [hB0] at hlt ⊢
  have HLT := Lib.hid hlt
  have hpB : p < B0 := hlt p hself
  have H := Lib.hid h
  have HR := Lib.hid hr
  clear h hr hlt hself hB0
  go_enter Try.func49, Try.ntmps49
  go_wp2_with fail
  go_loopw [7] (fun v wr => ∃ (L : List P2) (ln : Nat) (s1 : RS), L.length = ln ∧ ln ≤ n ∧ World.ownsRow wr B0 63 2 v ln (L.flatMap c2) ∧ Rdr wr p s1 F ∧ RgS s1 ∧ rowsL rdNode n s = (L ++ (rowsL rdNode (n - ln) s1).1, (rowsL rdNode (n - ln) s1).2) ∧ Mod (fun k => k = p) w wr) (fun v _ => n - (match v with | .slice _ k _ => k | _ => 0))
  case atStart => exact ⟨[], 0, s, rfl, by omega, World.ownsRow_nil _ _ _ _, H.out, HR.out, by simp, Mod.refl _ _⟩
  case round =>
    obtain ⟨L, ln, s1, hL, hln, hown, hrd, hrg, hrw, hmr⟩ := hrel
    obtain ⟨wo, hwo⟩ : ∃ x : World, x = wr := ⟨_, rfl⟩
    subst hwo
    obtain ⟨av, cv, rfl⟩ := own_form hown
    have HL := Lib.hid hL
    have HO := Lib.hid hown
    have HD := Lib.hid hrd
    have HG := Lib.hid hrg
    have HRW := Lib.hid hrw
    have HM := Lib.hid hmr
    clear hL hown hrd hrg hrw hmr
    have hend : ∀ (hz : rowsL rdNode (n - ln) s1 = ([], s1)), rowsL rdNode n s = (L, s1) := fun hz => by rw [HRW.out, hz]; simp
    have HE := Lib.hid hend
    clear hend
    by_cases hlt : ln < n
    case neg =>
      have z0 : decide ((ln : Int) < (n : Int)) = false := by simp; omega
      go_wp2_with fail
      go_ret
      have hz : rowsL rdNode (n - ln) s1 = ([], s1) := by rw [show n - ln = 0 by omega]; rfl
      rw [HE.out hz]
      rw [HL.out]
      exact ⟨av, cv, rfl, HO.out, HD.out, HM.out⟩
    case pos =>
      have z0 : decide ((ln : Int) < (n : Int)) = true := by simp; omega
      obtain ⟨lf, hlf⟩ : ∃ k, (s1.getD []).length = k := ⟨_, rfl⟩
      have hleft := left_any p wo s1 F HD.out
      rw [hlf] at hleft
      have HLF := Lib.hid hlf
      have HLE := Lib.hid hleft
      clear hlf hleft
      by_cases hl0 : lf = 0
      case pos =>
        have z1 : decide ((0 : Int) < (lf : Int)) = false := by simp; omega
        have z2 : decide (0 < lf) = false := by simp; omega
        go_wp2_with fail
        refine (HLE.out).mono ?_
        rintro e w' ⟨rfl, rfl⟩
        go_wp2_with fail
        go_ret
        rw [HE.out (rowsL_stop _ _ _ (by rw [HLF.out]; exact hl0)), HL.out]
        exact ⟨av, cv, rfl, HO.out, HD.out, HM.out⟩
      case neg =>
        have z1 : decide ((0 : Int) < (lf : Int)) = true := by simp; omega
        have z2 : decide (0 < lf) = true := by simp; omega
        have hgo : rowsL rdNode (n - ln) s1 = ((rdNode s1).1 :: (rowsL rdNode (n - (ln + 1)) (rdNode s1).2).1, (rowsL rdNode (n - (ln + 1)) (rdNode s1).2).2) := by
          rw [show n - ln = (n - (ln + 1)) + 1 by omega]; exact rowsL_go _ _ _ (by rw [HLF.out]; exact hl0)
        have HGO := Lib.hid hgo
        clear hgo hl0
        go_wp2_with fail
        refine (HLE.out).mono ?_
        rintro e w' ⟨rfl, rfl⟩
        go_wp2_with fail
        refine (rban_any p wo s1 F HD.out HG.out).mono ?_
        rintro e w2 ⟨rfl, hr2, hm2⟩
        have hcomp : (rdNode s1).1 = ((rdNode s1).1.1, (rdNode s1).1.2) := rfl
        obtain ⟨z0, hvz0⟩ : ∃ x, (rdNode s1).1.1 = x := ⟨_, rfl⟩
        obtain ⟨z1, hvz1⟩ : ∃ x, (rdNode s1).1.2 = x := ⟨_, rfl⟩
        rw [hvz0, hvz1] at hcomp
        rw [hvz0, hvz1]
        have HXX := Lib.hid hcomp
        clear hcomp hvz0 hvz1
        have HR2 := Lib.hid hr2
        have ho2 := Own.keep HO.out hm2 (fun k hk e => by have h1 := (HO.out.lt k hk).1; have h2 : k = p := e; omega)
        have HO2 := Lib.hid ho2
        have HM2 : Hid (Mod (fun k => k = p) w w2) := Lib.hid (HM.out.trans hm2 (fun _ _ e => e) (fun _ _ e => e))
        have H2 : Hid (B0 ≤ w2.heap.size) := Lib.hid (by rw [← HB0.out]; exact HM2.out.size)
        clear hr2 ho2 hm2
        go_wp2_with (at_builtin; refine wpList_append_any rfl (.tmp 17) (.tmp 21) 24 rfl 63 iT (.agg #[.int .i64 0, .int .i64 0]) 2 16 Try.underlying24 hiT hzT hsT hbT rfl (by decide) _ ln _ rfl (World.ownsRow.alloc (Own.base HO2.out (Nat.zero_le _)) _) _ 1 (c2 (z0, z1)) rfl (Rd.litN _ 2 _ _ _ 1 rfl rfl (by decide)) (by intro u hu; simp [c2] at hu; rcases hu with rfl | rfl <;> rfl) (by unfold maxLen; omega) (by omega) ?_; intro v4 w4 hap; obtain ⟨a4, c4, rfl⟩ := hap.form; have ho4 := hap.own; have lo4 := hap.low (B := B0) (by have h1 := H2.out; simp; omega) (fun q hq => (HO2.out.lt q hq).1); have HO4 := Lib.hid (Own.rebase ho4 lo4); have HA4 : Hid (Mod (fun q => B0 ≤ q) w2 w4) := Lib.hid ((Mod.alloc (fun q => B0 ≤ q) w2 _).trans (hap.mod.mono (fun q _ e => (HO2.out.lt q e).1)) (fun _ _ e => e) (fun _ _ e => e)); clear hap ho4 lo4)
        go_roundw
        case rel =>
          refine ⟨L ++ [(z0, z1)], ln + 1, (rdNode s1).2, by rw [List.length_append, HL.out]; rfl, by omega, ?_, HR2.out.keep HA4.out (fun k hk e => by have h1 := HLT.out k hk; have h2 : B0 ≤ k := e; omega), rg_node HG.out, ?_, HM2.out.trans HA4.out (fun _ _ e => e) (fun i hi e => by have h1 := HB0.out; have h2 : B0 ≤ i := e; omega)⟩
          · rw [List.flatMap_append]; simpa using HO4.out
          · rw [HRW.out, HGO.out, HXX.out]; simp
        case measure => show n - (ln + 1) < n - ln; omega
end Go.Proofs.Ytdccpikddhpleaa
