/- message.readEdges by contract. -/
import Derived.Test.YtabfmnlpipbegaaMsg1
import Derived.Test.YtabfmnlpipbegaaGram2
import Derived.Deep.DeepCutAuto
import Derived.Deep.CutBlock
namespace Go.Proofs.Ytabfmnlpipbegaa
open Go.RowKit Mile
set_option maxRecDepth 100000
theorem Msg2.info3 : (Try.prog.info? 3).map (fun i => (i.zero, i.size, i.bytes)) = some (some (.int .i64 0), 1, 8) := by kernel_rfl
/-- A row of edges, as long as there are bytes. -/
def rdE : Nat → Int → RS2 → List Int → List Int × RS2
  | 0, _, S, acc => (acc, S)
  | f + 1, n, S, acc => if (acc.length : Int) < n ∧ 0 < (S.getD []).length then rdE f n (numR 2 S).2 (acc ++ [(numR 2 S).1]) else (acc, S)
def rdEs (S : RS2) : List Int × RS2 := rdE ((numR 2 S).2.getD []).length (numR 2 S).1 (numR 2 S).2 []
theorem rdE_stop {f : Nat} {n : Int} {S : RS2} {acc : List Int} (h : ¬ ((acc.length : Int) < n ∧ 0 < (S.getD []).length)) : rdE f n S acc = (acc, S) := by
  cases f with
  | zero => rfl
  | succ f => show (if _ then _ else _) = _; rw [if_neg h]
theorem numR2_less {S : RS2} (h : 0 < (S.getD []).length) : ((numR 2 S).2.getD []).length < (S.getD []).length := by
  unfold numR takeS
  rw [if_pos (by decide)]
  split
  · cases S with
    | none => simp at h
    | some l => simp at h ⊢; omega
  · simpa using h
theorem rdE_fuel : ∀ (f g : Nat) (n : Int) (S : RS2) (acc : List Int), (S.getD []).length ≤ f → (S.getD []).length ≤ g → rdE f n S acc = rdE g n S acc := by
  intro f
  induction f with
  | zero => intro g n S acc h1 _; rw [rdE_stop (by omega), rdE_stop (by omega)]
  | succ f ih =>
    intro g n S acc h1 h2
    cases g with
    | zero => rw [rdE_stop (by omega), rdE_stop (by omega)]
    | succ g =>
      show (if _ then _ else _) = (if _ then _ else _)
      by_cases hc : (acc.length : Int) < n ∧ 0 < (S.getD []).length
      · rw [if_pos hc, if_pos hc]
        have := numR2_less hc.2
        exact ih g n _ _ (by omega) (by omega)
      · rw [if_neg hc, if_neg hc]
theorem rdE_step {n : Int} {S : RS2} {acc : List Int} (h : (acc.length : Int) < n ∧ 0 < (S.getD []).length) : rdE (S.getD []).length n S acc = rdE ((numR 2 S).2.getD []).length n (numR 2 S).2 (acc ++ [(numR 2 S).1]) := by
  obtain ⟨k, hk⟩ : ∃ k, (S.getD []).length = k + 1 := ⟨(S.getD []).length - 1, by omega⟩
  rw [hk]
  show (if _ then _ else _) = _
  rw [if_pos h]
  have := numR2_less h.2
  exact rdE_fuel _ _ _ _ _ (by omega) (by omega)
def lenM : Value → Nat
  | .slice _ n _ => n
  | _ => 0
/-- What readEdges tells. -/
def REdP (p : Nat) (S : RS2) (F : Nat → Prop) (w : World) (e : Ending) (w' : World) : Prop :=
  ∃ a c, e = .returned (.slice a (rdEs S).1.length c) ∧ World.ownsRow w' w.heap.size 3 1 (.slice a (rdEs S).1.length c) (rdEs S).1.length ((rdEs S).1.map (Value.int .i64)) ∧ Rdr w' p (rdEs S).2 F ∧ Mod (fun k => k = p) w w'

set_option maxHeartbeats 16000000 in
theorem redges_any (w : World) (p : Nat) (S : RS2) (F : Nat → Prop) (h : Rdr w p S F) (hb : ∀ x ∈ S.getD [], 0 ≤ x ∧ x < 256) (hl : (S.getD []).length ≤ 100000) :
    Calls Try.prog 48 #[.pointer (some ⟨p, 0, none⟩)] w (REdP p S F w) := by
  obtain ⟨iI, hiI, hzI, hsI, hbI⟩ := info_parts Msg2.info3
  have hFp := rdr_self h
  have hplt := h.lt p hFp
  have HFL := Lib.hid h.lt
  have H := Lib.hid h
  have HB := Lib.hid hb
  obtain ⟨V1, S1, e1⟩ : ∃ V S', numR 2 S = (V, S') := ⟨_, _, rfl⟩
  have R1 : ∀ x ∈ S1.getD [], 0 ≤ x ∧ x < 256 := fun x hx => hb x (numR_sub (size := 2) x (by rw [e1]; exact hx))
  have L1 : (S1.getD []).length ≤ 100000 := by have := @numR_len 2 S; rw [e1] at this; exact Nat.le_trans this hl
  obtain ⟨RR, hRR⟩ : ∃ x, rdEs S = x := ⟨_, rfl⟩
  have hst : rdE (S1.getD []).length V1 S1 [] = RR := by rw [← hRR]; unfold rdEs; rw [e1]
  have HG : Hid (∀ e w', (∃ a c, e = .returned (.slice a RR.1.length c) ∧ World.ownsRow w' w.heap.size 3 1 (.slice a RR.1.length c) RR.1.length (RR.1.map (Value.int .i64)) ∧ Rdr w' p RR.2 F ∧ Mod (fun k => k = p) w w') → REdP p S F w e w') := Lib.hid (by unfold REdP; rw [hRR]; exact fun _ _ h => h)
  have E1 := Lib.hid e1
  have HST := Lib.hid hst
  have HR1 := Lib.hid R1
  clear h hb e1 hRR hst R1 hFp
  go_enter Try.func48, Try.ntmps48
  go_wp2_with fail
  refine (num_any p _ S F H.out HB.out 2).mono ?_
  rw [E1.out]
  rintro e w1 ⟨rfl, hR1, hM1⟩
  have HM1 := Lib.hid hM1
  have HQ1 := Lib.hid hR1
  clear hR1 hM1
  go_wp2_with fail
  go_loopw [3] (fun gv wr => ∃ (T : RS2) (acc : List Int) (m : Nat) (ag : Option Addr) (cg : Nat), gv = .slice ag m cg ∧ acc.length = m ∧ m + (T.getD []).length ≤ 100000 ∧ (∀ x ∈ T.getD [], 0 ≤ x ∧ x < 256) ∧ World.ownsRow wr w.heap.size 3 1 (.slice ag m cg) m (acc.map (Value.int .i64)) ∧ Rdr wr p T F ∧ Mod (fun k => k = p) w wr ∧ rdE (T.getD []).length V1 T acc = RR) (fun gv _ => 100000 - lenM gv)
  case atStart => exact ⟨S1, [], 0, none, 0, rfl, rfl, by omega, HR1.out, World.ownsRow_nil _ _ _ _, HQ1.out, HM1.out, HST.out⟩
  case round =>
    obtain ⟨T, acc, m, ag, cg, rfl, hm, hml, hrT, ho, hrd, hmod, heq⟩ := hrel
    have HLN := Lib.hid hm
    have HRT := Lib.hid hrT
    have HO := Lib.hid ho
    have HRD := Lib.hid hrd
    have HMD := Lib.hid hmod
    have HEQ := Lib.hid heq
    clear hm hrT ho hrd hmod heq
    obtain ⟨tl, htl⟩ : ∃ x, (T.getD []).length = x := ⟨_, rfl⟩
    have HTL := Lib.hid htl
    rw [htl] at hml
    clear htl
    by_cases hc1 : (m : Int) < V1
    case neg =>
      have z0 : decide ((m : Int) < V1) = false := by simp; omega
      have hd : RR = (acc, T) := by rw [← HEQ.out]; exact rdE_stop (by rw [HLN.out]; omega)
      subst hd
      go_wp2_with fail
      go_ret
      exact HG.out _ _ ⟨ag, cg, by rw [HLN.out]; rfl, by rw [HLN.out]; exact HO.out, HRD.out, HMD.out⟩
    case pos =>
      have z0 : decide ((m : Int) < V1) = true := by simp; omega
      by_cases hc2 : 0 < tl
      case neg =>
        have z1 : decide (0 < (tl : Int)) = false := by simp; omega
        have z2 : decide (0 < tl) = false := by simp; omega
        have hd : RR = (acc, T) := by rw [← HEQ.out]; exact rdE_stop (by rw [HTL.out]; omega)
        subst hd
        go_wp2_with fail
        refine (left_any p _ T F HRD.out).mono ?_
        rw [HTL.out]
        rintro e w2 ⟨rfl, rfl⟩
        go_wp2_with fail
        go_ret
        exact HG.out _ _ ⟨ag, cg, by rw [HLN.out]; rfl, by rw [HLN.out]; exact HO.out, HRD.out, HMD.out⟩
      case pos =>
        have z1 : decide (0 < (tl : Int)) = true := by simp; omega
        have z2 : decide (0 < tl) = true := by simp; omega
        have hd := HEQ.out
        rw [rdE_step ⟨by rw [HLN.out]; exact hc1, by rw [HTL.out]; exact hc2⟩] at hd
        have hls := numR2_less (show 0 < (T.getD []).length by rw [HTL.out]; exact hc2)
        rw [HTL.out] at hls
        have hrg : ∀ x ∈ (numR 2 T).2.getD [], 0 ≤ x ∧ x < 256 := fun x hx => HRT.out x (numR_sub (size := 2) x hx)
        obtain ⟨V2, T2, e2⟩ : ∃ V S', numR 2 T = (V, S') := ⟨_, _, rfl⟩
        rw [e2] at hd hls hrg
        replace hd : rdE (T2.getD []).length V1 T2 (acc ++ [V2]) = RR := hd
        have E2 := Lib.hid e2
        have HD := Lib.hid hd
        have HRG := Lib.hid hrg
        replace hls : (T2.getD []).length < tl := hls
        clear e2 hd hrg
        have hb1 : m + 1 ≤ maxLen := by unfold maxLen; omega
        go_wp2_with fail
        refine (left_any p _ T F HRD.out).mono ?_
        rw [HTL.out]
        rintro e w2 ⟨rfl, rfl⟩
        go_wp2_with fail
        refine (num_any p _ T F HRD.out HRT.out 2).mono ?_
        rw [E2.out]
        rintro e w3 ⟨rfl, hR3, hM3⟩
        have ho3 := Own.keep HO.out hM3 (fun k hk e => by have h1 := (HO.out.lt k hk).1; omega)
        have hm3 := HMD.out.trans hM3 (H := fun k => k = p) (fun _ _ e => e) (fun _ _ e => e)
        have HO3 := Lib.hid ho3
        have HM3 := Lib.hid hm3
        have HQ3 := Lib.hid hR3
        clear hR3 hM3 ho3 hm3
        have hoa := fun o => Own.base (Own.keep HO3.out (Mod.alloc (fun _ => False) _ o) (fun _ _ e => e)) (Nat.zero_le _)
        go_wp2_with (at_builtin; refine wpList_append_any rfl (.tmp 16) (.tmp 19) 22 rfl 3 iI (.int .i64 0) 1 8 Try.underlying22 hiI hzI hsI hbI rfl (by decide) _ m (acc.map (Value.int .i64)) rfl (hoa _) _ 1 [.int .i64 V2] rfl (Rd.lit _ _ _ _ 1 rfl rfl (by decide)) (by intro u hu; simp at hu; subst hu; rfl) hb1 (by omega) ?_; intro v4 w4 hap)
        obtain ⟨a4, c4, rfl⟩ := hap.form
        have ho4 := hap.own
        have lo4 := hap.low (B := w.heap.size) (by have h1 := HM3.out.size; simp; omega) (fun k hk => (HO3.out.lt k hk).1)
        have hm4 := (HM3.out.thenAlloc _).trans hap.mod (H := fun k => k = p) (fun _ _ e => e) (fun i hi e => by have := (HO3.out.lt i e).1; omega)
        have hq4 : Rdr w4 p T2 F := (HQ3.out.keep (Mod.alloc (fun _ => False) _ _) (fun _ _ e => e)).keep hap.mod (fun k hk e => by have h1 := HFL.out k hk; have h2 := (HO3.out.lt k e).1; omega)
        have ho5 := Own.rebase ho4 lo4
        have HO5 := Lib.hid ho5
        have HM4 := Lib.hid hm4
        have HQ4 := Lib.hid hq4
        clear hap ho4 lo4 hm4 ho5 hq4 hoa
        go_wp2_with fail
        go_roundw
        case rel => exact ⟨T2, acc ++ [V2], m + 1, a4, c4, rfl, by rw [List.length_append, HLN.out]; rfl, by omega, HRG.out, by rw [List.map_append]; exact HO5.out, HQ4.out, HM4.out, HD.out⟩
        case measure => simp [lenM]; omega
end Go.Proofs.Ytabfmnlpipbegaa
