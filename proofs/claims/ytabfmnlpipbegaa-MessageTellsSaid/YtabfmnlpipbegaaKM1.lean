/- message.readEdges by contract. -/
import Derived.Test.YtabfmnlpipbegaaMsg1
import Derived.Test.YtabfmnlpipbegaaGram2
import Derived.Deep.DeepCutAuto
import Derived.Deep.CutBlock
import Derived.Test.YtabfmnlpipbegaaGram3
import Derived.Test.YtabfmnlpipbegaaGramN
namespace Go.Proofs.Ytabfmnlpipbegaa
open Go.RowKit Mile
set_option maxRecDepth 100000
theorem Msg2.info3 : (Try.prog.info? 3).map (fun i => (i.zero, i.size, i.bytes)) = some (some (.int .i64 0), 1, 8) := by kernel_rfl
/-- A row of edges, as long as there are bytes. -/
def rdE : Nat → Int → RS2 → List Int → List Int × RS2
  | 0, _, S, acc => (acc, S)
  | f + 1, n, S, acc => if (acc.length : Int) < n ∧ 0 < (S.getD []).length then rdE f n (numR 2 S).2 (acc ++ [(numR 2 S).1]) else (acc, S)
def rdEs (S : RS2) : List Int × RS2 := rdE ((numR 2 S).2.getD []).length (numR 2 S).1 (numR 2 S).2 []
theorem rdE_stop {f : Nat} {n : Int} {S : RS2} {acc : List Int} (h : ¬ ((acc.length : Int) < n ∧ 0 < (S.getD []).length)) : rdE f n S acc = (acc, S) := by
  cases f with
  | zero => rfl
  | succ f => show (if _ then _ else _) = _; rw [if_neg h]
theorem numR2_less {S : RS2} (h : 0 < (S.getD []).length) : ((numR 2 S).2.getD []).length < (S.getD []).length := by
  unfold numR takeS
  rw [if_pos (by decide)]
  split
  · cases S with
    | none => simp at h
    | some l => simp at h ⊢; omega
  · simpa using h
theorem rdE_fuel : ∀ (f g : Nat) (n : Int) (S : RS2) (acc : List Int), (S.getD []).length ≤ f → (S.getD []).length ≤ g → rdE f n S acc = rdE g n S acc := by
  intro f
  induction f with
  | zero => intro g n S acc h1 _; rw [rdE_stop (by omega), rdE_stop (by omega)]
  | succ f ih =>
    intro g n S acc h1 h2
    cases g with
    | zero => rw [rdE_stop (by omega), rdE_stop (by omega)]
    | succ g =>
      show (if _ then _ else _) = (if _ then _ else _)
      by_cases hc : (acc.length : Int) < n ∧ 0 < (S.getD []).length
      · rw [if_pos hc, if_pos hc]
        have := numR2_less hc.2
        exact ih g n _ _ (by omega) (by omega)
      · rw [if_neg hc, if_neg hc]
theorem rdE_step {n : Int} {S : RS2} {acc : List Int} (h : (acc.length : Int) < n ∧ 0 < (S.getD []).length) : rdE (S.getD []).length n S acc = rdE ((numR 2 S).2.getD []).length n (numR 2 S).2 (acc ++ [(numR 2 S).1]) := by
  obtain ⟨k, hk⟩ : ∃ k, (S.getD []).length = k + 1 := ⟨(S.getD []).length - 1, by omega⟩
  rw [hk]
  show (if _ then _ else _) = _
  rw [if_pos h]
  have := numR2_less h.2
  exact rdE_fuel _ _ _ _ _ (by omega) (by omega)
def lenM : Value → Nat
  | .slice _ n _ => n
  | _ => 0
/-- What readEdges tells. -/
def REdP (p : Nat) (S : RS2) (F : Nat → Prop) (w : World) (e : Ending) (w' : World) : Prop :=
  ∃ a c, e = .returned (.slice a (rdEs S).1.length c) ∧ World.ownsRow w' w.heap.size 3 1 (.slice a (rdEs S).1.length c) (rdEs S).1.length ((rdEs S).1.map (Value.int .i64)) ∧ Rdr w' p (rdEs S).2 F ∧ Mod (fun k => k = p) w w'

set_option maxHeartbeats 16000000 in
theorem redges_any (w : World) (p : Nat) (S : RS2) (F : Nat → Prop) (h : Rdr w p S F) (hb : ∀ x ∈ S.getD [], 0 ≤ x ∧ x < 256) (hl : (S.getD []).length ≤ 100000) :
    Calls Try.prog 48 #[.pointer (some ⟨p, 0, none⟩)] w (REdP p S F w) := by
  obtain ⟨iI, hiI, hzI, hsI, hbI⟩ := info_parts Msg2.info3
  have hFp := rdr_self h
  have hplt := h.lt p hFp
  have HFL := Lib.hid h.lt
  have H := Lib.hid h
  have HB := Lib.hid hb
  obtain ⟨V1, S1, e1⟩ : ∃ V S', numR 2 S = (V, S') := ⟨_, _, rfl⟩
  have R1 : ∀ x ∈ S1.getD [], 0 ≤ x ∧ x < 256 := fun x hx => hb x (numR_sub (size := 2) x (by rw [e1]; exact hx))
  have L1 : (S1.getD []).length ≤ 100000 := by have := @numR_len 2 S; rw [e1] at this; exact Nat.le_trans this hl
  obtain ⟨RR, hRR⟩ : ∃ x, rdEs S = x := ⟨_, rfl⟩
  have hst : rdE (S1.getD []).length V1 S1 [] = RR := by rw [← hRR]; unfold rdEs; rw [e1]
  have HG : Hid (∀ e w', (∃ a c, e = .returned (.slice a RR.1.length c) ∧ World.ownsRow w' w.heap.size 3 1 (.slice a RR.1.length c) RR.1.length (RR.1.map (Value.int .i64)) ∧ Rdr w' p RR.2 F ∧ Mod (fun k => k = p) w w') → REdP p S F w e w') := Lib.hid (by unfold REdP; rw [hRR]; exact fun _ _ h => h)
  have E1 := Lib.hid e1
  have HST := Lib.hid hst
  have HR1 := Lib.hid R1
  clear h hb e1 hRR hst R1 hFp
  go_enter Try.func48, Try.ntmps48
  go_wp2_with fail
  refine (num_any p _ S F H.out HB.out 2).mono ?_
  rw [E1.out]
  rintro e w1 ⟨rfl, hR1, hM1⟩
  have HM1 := Lib.hid hM1
  have HQ1 := Lib.hid hR1
  clear hR1 hM1
  go_wp2_with fail
  go_loopw [3] (fun gv wr => ∃ (T : RS2) (acc : List Int) (m : Nat) (ag : Option Addr) (cg : Nat), gv = .slice ag m cg ∧ acc.length = m ∧ m + (T.getD []).length ≤ 100000 ∧ (∀ x ∈ T.getD [], 0 ≤ x ∧ x < 256) ∧ World.ownsRow wr w.heap.size 3 1 (.slice ag m cg) m (acc.map (Value.int .i64)) ∧ Rdr wr p T F ∧ Mod (fun k => k = p) w wr ∧ rdE (T.getD []).length V1 T acc = RR) (fun gv _ => 100000 - lenM gv)
  case atStart => exact ⟨S1, [], 0, none, 0, rfl, rfl, by omega, HR1.out, World.ownsRow_nil _ _ _ _, HQ1.out, HM1.out, HST.out⟩
  case round =>
    obtain ⟨T, acc, m, ag, cg, rfl, hm, hml, hrT, ho, hrd, hmod, heq⟩ := hrel
    have HLN := Lib.hid hm
    have HRT := Lib.hid hrT
    have HO := Lib.hid ho
    have HRD := Lib.hid hrd
    have HMD := Lib.hid hmod
    have HEQ := Lib.hid heq
    clear hm hrT ho hrd hmod heq
    obtain ⟨tl, htl⟩ : ∃ x, (T.getD []).length = x := ⟨_, rfl⟩
    have HTL := Lib.hid htl
    rw [htl] at hml
    clear htl
    by_cases hc1 : (m : Int) < V1
    case neg =>
      have z0 : decide ((m : Int) < V1) = false := by simp; omega
      have hd : RR = (acc, T) := by rw [← HEQ.out]; exact rdE_stop (by rw [HLN.out]; omega)
      subst hd
      go_wp2_with fail
      go_ret
      exact HG.out _ _ ⟨ag, cg, by rw [HLN.out]; rfl, by rw [HLN.out]; exact HO.out, HRD.out, HMD.out⟩
    case pos =>
      have z0 : decide ((m : Int) < V1) = true := by simp; omega
      by_cases hc2 : 0 < tl
      case neg =>
        have z1 : decide (0 < (tl : Int)) = false := by simp; omega
        have z2 : decide (0 < tl) = false := by simp; omega
        have hd : RR = (acc, T) := by rw [← HEQ.out]; exact rdE_stop (by rw [HTL.out]; omega)
        subst hd
        go_wp2_with fail
        refine (left_any p _ T F HRD.out).mono ?_
        rw [HTL.out]
        rintro e w2 ⟨rfl, rfl⟩
        go_wp2_with fail
        go_ret
        exact HG.out _ _ ⟨ag, cg, by rw [HLN.out]; rfl, by rw [HLN.out]; exact HO.out, HRD.out, HMD.out⟩
      case pos =>
        have z1 : decide (0 < (tl : Int)) = true := by simp; omega
        have z2 : decide (0 < tl) = true := by simp; omega
        have hd := HEQ.out
        rw [rdE_step ⟨by rw [HLN.out]; exact hc1, by rw [HTL.out]; exact hc2⟩] at hd
        have hls := numR2_less (show 0 < (T.getD []).length by rw [HTL.out]; exact hc2)
        rw [HTL.out] at hls
        have hrg : ∀ x ∈ (numR 2 T).2.getD [], 0 ≤ x ∧ x < 256 := fun x hx => HRT.out x (numR_sub (size := 2) x hx)
        obtain ⟨V2, T2, e2⟩ : ∃ V S', numR 2 T = (V, S') := ⟨_, _, rfl⟩
        rw [e2] at hd hls hrg
        replace hd : rdE (T2.getD []).length V1 T2 (acc ++ [V2]) = RR := hd
        have E2 := Lib.hid e2
        have HD := Lib.hid hd
        have HRG := Lib.hid hrg
        replace hls : (T2.getD []).length < tl := hls
        clear e2 hd hrg
        have hb1 : m + 1 ≤ maxLen := by unfold maxLen; omega
        go_wp2_with fail
        refine (left_any p _ T F HRD.out).mono ?_
        rw [HTL.out]
        rintro e w2 ⟨rfl, rfl⟩
        go_wp2_with fail
        refine (num_any p _ T F HRD.out HRT.out 2).mono ?_
        rw [E2.out]
        rintro e w3 ⟨rfl, hR3, hM3⟩
        have ho3 := Own.keep HO.out hM3 (fun k hk e => by have h1 := (HO.out.lt k hk).1; omega)
        have hm3 := HMD.out.trans hM3 (H := fun k => k = p) (fun _ _ e => e) (fun _ _ e => e)
        have HO3 := Lib.hid ho3
        have HM3 := Lib.hid hm3
        have HQ3 := Lib.hid hR3
        clear hR3 hM3 ho3 hm3
        have hoa := fun o => Own.base (Own.keep HO3.out (Mod.alloc (fun _ => False) _ o) (fun _ _ e => e)) (Nat.zero_le _)
        go_wp2_with (at_builtin; refine wpList_append_any rfl (.tmp 16) (.tmp 19) 22 rfl 3 iI (.int .i64 0) 1 8 Try.underlying22 hiI hzI hsI hbI rfl (by decide) _ m (acc.map (Value.int .i64)) rfl (hoa _) _ 1 [.int .i64 V2] rfl (Rd.lit _ _ _ _ 1 rfl rfl (by decide)) (by intro u hu; simp at hu; subst hu; rfl) hb1 (by omega) ?_; intro v4 w4 hap)
        obtain ⟨a4, c4, rfl⟩ := hap.form
        have ho4 := hap.own
        have lo4 := hap.low (B := w.heap.size) (by have h1 := HM3.out.size; simp; omega) (fun k hk => (HO3.out.lt k hk).1)
        have hm4 := (HM3.out.thenAlloc _).trans hap.mod (H := fun k => k = p) (fun _ _ e => e) (fun i hi e => by have := (HO3.out.lt i e).1; omega)
        have hq4 : Rdr w4 p T2 F := (HQ3.out.keep (Mod.alloc (fun _ => False) _ _) (fun _ _ e => e)).keep hap.mod (fun k hk e => by have h1 := HFL.out k hk; have h2 := (HO3.out.lt k e).1; omega)
        have ho5 := Own.rebase ho4 lo4
        have HO5 := Lib.hid ho5
        have HM4 := Lib.hid hm4
        have HQ4 := Lib.hid hq4
        clear hap ho4 lo4 hm4 ho5 hq4 hoa
        go_wp2_with fail
        go_roundw
        case rel => exact ⟨T2, acc ++ [V2], m + 1, a4, c4, rfl, by rw [List.length_append, HLN.out]; rfl, by omega, HRG.out, by rw [List.map_append]; exact HO5.out, HQ4.out, HM4.out, HD.out⟩
        case measure => simp [lenM]; omega
end Go.Proofs.Ytabfmnlpipbegaa
namespace Go.Proofs.Ytabfmnlpipbegaa
open Go.RowKit Mile
set_option maxRecDepth 100000
def rdK (k : Int) (S : RS2) : MsD :=
  if k = 1 then ⟨k, (numR 2 S).1, (numR 2 (numR 2 S).2).1, [], 0, 0, 0, 0, 0⟩
  else if k = 2 ∨ k = 9 then ⟨k, (numR 2 S).1, 0, [], 0, 0, 0, 0, 0⟩
  else if k = 5 then ⟨k, 0, 0, (rdEs (numR 5 S).2).1, (numR 5 S).1, 0, 0, 0, 0⟩
  else if k = 7 then ⟨k, 0, 0, [], 0, (numR 1 S).1, (numR 2 (numR 1 S).2).1 - 1, (numR 5 (numR 2 (numR 1 S).2).2).1, (numR 5 (numR 5 (numR 2 (numR 1 S).2).2).2).1⟩
  else ⟨k, 0, 0, [], 0, 0, 0, 0, 0⟩
/-- What stands where Encode writes it. -/
def rdM (b : List Int) : MsD := rdK (numR 1 (some b)).1 (numR 1 (some b)).2
theorem numR2_bd {S : RS2} (h : ∀ x ∈ S.getD [], 0 ≤ x ∧ x < 256) : 0 ≤ (numR 2 S).1 ∧ (numR 2 S).1 ≤ 65535 := by
  unfold numR takeS
  rw [if_pos (by decide)]
  split
  · have hr : ∀ x ∈ (S.getD []).take (2 : Int).toNat, 0 ≤ x ∧ x < 256 := fun x hx => h x (List.mem_of_mem_take hx)
    have h1 := undigs_nonneg _ 0 (by omega) hr
    have h2 := undigs_bound _ 0 (by omega) hr
    refine ⟨h1, ?_⟩
    have hl : ((S.getD []).take (2 : Int).toNat).length = 2 := by rw [List.length_take]; omega
    rw [hl] at h2
    have e : (256 : Int) ^ 2 = 65536 := by decide
    rw [e] at h2
    simp only []
    omega
  · exact ⟨by show (0 : Int) ≤ undigs 0 []; decide, by show undigs 0 [] ≤ (65535 : Int); decide⟩
theorem Mod.set9 (w : World) (r : Nat) (v0 v1 v2 v3 v4 v5 v6 v7 v8 : Value) : Mod (fun k => k = r) w (((((((((w.setCell ⟨r, 0, none⟩ v0).setCell ⟨r, 1, none⟩ v1).setCell ⟨r, 2, none⟩ v2).setCell ⟨r, 3, none⟩ v3).setCell ⟨r, 4, none⟩ v4).setCell ⟨r, 5, none⟩ v5).setCell ⟨r, 6, none⟩ v6).setCell ⟨r, 7, none⟩ v7).setCell ⟨r, 8, none⟩ v8) := by
  have h : ∀ (w : World) i v, Mod (fun k => k = r) w (w.setCell ⟨r, i, none⟩ v) := fun w i v => Mod.setCell _ _ _ rfl
  have t : ∀ {a b c : World}, Mod (fun k => k = r) a b → Mod (fun k => k = r) b c → Mod (fun k => k = r) a c := fun x y => x.trans y (fun _ _ e => e) (fun _ _ e => e)
  exact t (t (t (t (t (t (t (t (h _ _ _) (h _ _ _)) (h _ _ _)) (h _ _ _)) (h _ _ _)) (h _ _ _)) (h _ _ _)) (h _ _ _)) (h _ _ _)
/-- What read tells. -/
def MReadP (b : List Int) (w : World) (e : Ending) (w' : World) : Prop :=
  ∃ a c, e = .returned (msgV (rdM b) a (rdM b).edges.length c) ∧ World.ownsRow w' w.heap.size 3 1 (.slice a (rdM b).edges.length c) (rdM b).edges.length ((rdM b).edges.map (Value.int .i64)) ∧ Mod (fun _ => False) w w'
set_option maxHeartbeats 16000000 in
theorem mread_any (w : World) (a : Option Addr) (n c : Nat) (b : List Int) (hn : b.length = n) (hr : Rd w 1 (.slice a n c) n (b.map (Value.int .u8))) (hb : ∀ x ∈ b, 0 ≤ x ∧ x < 256) (hnb : n ≤ 100000) :
    Calls Try.prog 28 #[.slice a n c] w (MReadP b w) := by
  have R0 : ∀ x ∈ (some b).getD [], 0 ≤ x ∧ x < 256 := hb
  obtain ⟨V1, S1, e1⟩ : ∃ V S, numR 1 (some b) = (V, S) := ⟨_, _, rfl⟩
  have R1 : ∀ x ∈ S1.getD [], 0 ≤ x ∧ x < 256 := fun x hx => R0 x (numR_sub (size := 1) x (by rw [e1]; exact hx))
  have L1 : (S1.getD []).length ≤ b.length := by have := @numR_len 1 (some b); rw [e1] at this; exact this
  have HP : Hid (rdM b = rdK V1 S1) := Lib.hid (by unfold rdM; rw [e1])
  have HN := Lib.hid hn
  have E1 := Lib.hid e1
  clear hn e1
  obtain ⟨r, hr0⟩ : ∃ b, w.heap.size = b := ⟨_, rfl⟩
  obtain ⟨w0, hw0⟩ : ∃ W, w.alloc (.cells #[.int .i64 0, .int .i64 0, .int .i64 0, .slice none 0 0, .int .i64 0, .int .i64 0, .int .i64 0, .int .i64 0, .int .i64 0] 26) = W := ⟨_, rfl⟩
  have hB : Blk w0 r 26 [.int .i64 0, .int .i64 0, .int .i64 0, .slice none 0 0, .int .i64 0, .int .i64 0, .int .i64 0, .int .i64 0, .int .i64 0] := by rw [← hw0, ← hr0]; exact Blk.new _ _ [.int .i64 0, .int .i64 0, .int .i64 0, .slice none 0 0, .int .i64 0, .int .i64 0, .int .i64 0, .int .i64 0, .int .i64 0]
  have hm0 : Mod (fun _ => False) w w0 := by rw [← hw0]; exact Mod.alloc _ _ _
  have hrd : Rd w0 1 (.slice a n c) b.length (b.map (Value.int .u8)) := by rw [HN.out]; exact hr.keep hm0 (fun _ _ e => e)
  have HB := Lib.hid hB
  have HM0 := Lib.hid hm0
  have HRD := Lib.hid hrd
  have hrw : w.heap.size ≤ r := by omega
  clear hB hm0 hrd hr hb
  go_enter Try.func28, Try.ntmps28
  go_upto_region 1 with fail
  try rw [hw0]
  try rw [hr0]
  clear hw0 hr0
  go_wp2_with fail
  refine (read_any w0 (.slice a n c) b HRD.out (by rw [HN.out]; omega)).mono ?_
  rintro e w1 ⟨p, F, rfl, hR, hlow, hM⟩
  have h1 := Lib.hid (show RdSt w0 w1 p (some b) F from ⟨hR, hlow, rdr_self hR, hM⟩)
  clear hR hlow hM
  go_wp2_with fail
  refine (num_any p _ (some b) F h1.out.r R0 1).mono ?_
  rw [E1.out]
  rintro e w2 ⟨rfl, hR, hM⟩
  have h2 := Lib.hid (h1.out.aft hR hM)
  clear h1 hR hM
  go_upto_region 3 with fail
  obtain ⟨gb, hgb⟩ : ∃ b, w2.heap.size = b := ⟨_, rfl⟩
  obtain ⟨w3, hw3⟩ : ∃ W, w2.alloc (.cells #[.int .i64 V1, .int .i64 0, .int .i64 0, .slice none 0 0, .int .i64 0, .int .i64 0, .int .i64 0, .int .i64 0, .int .i64 0] 26) = W := ⟨_, rfl⟩
  have h3 : RG w w3 26 r gb p S1 F [.int .i64 V1, .int .i64 0, .int .i64 0, .slice none 0 0, .int .i64 0, .int .i64 0, .int .i64 0, .int .i64 0, .int .i64 0] [.int .i64 0, .int .i64 0, .int .i64 0, .slice none 0 0, .int .i64 0, .int .i64 0, .int .i64 0, .int .i64 0, .int .i64 0] := by
    have hl2 := h2.out.r.lt
    have hlo := h2.out.low
    have hs := h2.out.mod.size
    have hrl := HB.out.lt
    have hz2 := HB.out.keep h2.out.mod (fun e => e)
    refine ⟨?_, ?_, ?_, h2.out.self, fun e => ?_, fun e => ?_, ?_, ?_, hrw, fun k hk => ?_, ?_⟩
    · rw [← hw3]; exact h2.out.r.keep (Mod.alloc (fun _ => False) _ _) (fun _ _ e => e)
    · rw [← hw3, ← hgb]; exact Blk.new _ _ [.int .i64 V1, .int .i64 0, .int .i64 0, .slice none 0 0, .int .i64 0, .int .i64 0, .int .i64 0, .int .i64 0, .int .i64 0]
    · rw [← hw3]; exact hz2.alloc _
    · have := hl2 _ e; omega
    · have := hlo _ e; omega
    · omega
    · have := HM0.out.size; omega
    · have := hlo _ hk; have := HM0.out.size; omega
    · rw [← hw3]; exact (HM0.out.of2 h2.out.mod).thenAlloc _
  have H3 := Lib.hid h3
  clear h3 h2 HB HM0 HRD
  rw [hw3, hgb]
  clear hw3 hgb
  have hbk := H3.out.g
  have q0 := hbk.cell 0 rfl
  have q1 := hbk.cell 1 rfl
  have q2 := hbk.cell 2 rfl
  have q3 := hbk.cell 3 rfl
  have q4 := hbk.cell 4 rfl
  have q5 := hbk.cell 5 rfl
  have q6 := hbk.cell 6 rfl
  have q7 := hbk.cell 7 rfl
  have q8 := hbk.cell 8 rfl
  have lq := hbk.lt
  clear hbk
  go_upto_region 4 with fail
  clear q0 q1 q2 q3 q4 q5 q6 q7 q8 lq
  by_cases k1 : V1 = 1
  case pos =>
    subst k1
    obtain ⟨V2, S2, e2⟩ : ∃ V S, numR 2 S1 = (V, S) := ⟨_, _, rfl⟩
    have R2 : ∀ x ∈ S2.getD [], 0 ≤ x ∧ x < 256 := fun x hx => R1 x (numR_sub (size := 2) x (by rw [e2]; exact hx))
    obtain ⟨V3, S3, e3⟩ : ∃ V S, numR 2 S2 = (V, S) := ⟨_, _, rfl⟩
    have R3 : ∀ x ∈ S3.getD [], 0 ≤ x ∧ x < 256 := fun x hx => R2 x (numR_sub (size := 2) x (by rw [e3]; exact hx))
    have PK : Hid (rdK 1 S1 = ⟨1, V2, V3, [], 0, 0, 0, 0, 0⟩) := Lib.hid (by unfold rdK; rw [if_pos rfl, e2]; simp only []; rw [e3])
    have E2 := Lib.hid e2
    have E3 := Lib.hid e3
    clear e2 e3
    go_wp2_with fail
    refine (num_any p _ S1 F H3.out.rd R1 2).mono ?_
    rw [E2.out]
    rintro e w4 ⟨rfl, hR, hM⟩
    have H4 := Lib.hid (H3.out.aft hR hM)
    clear hR hM
    go_wp2_with fail
    refine (num_any p _ S2 F H4.out.rd R2 2).mono ?_
    rw [E3.out]
    rintro e w5 ⟨rfl, hR, hM⟩
    have H5 := Lib.hid (H4.out.aft hR hM)
    clear hR hM
    have hbk := H5.out.g
    have q0 := hbk.cell 0 rfl
    have q1 := hbk.cell 1 rfl
    have q2 := hbk.cell 2 rfl
    have q3 := hbk.cell 3 rfl
    have q4 := hbk.cell 4 rfl
    have q5 := hbk.cell 5 rfl
    have q6 := hbk.cell 6 rfl
    have q7 := hbk.cell 7 rfl
    have q8 := hbk.cell 8 rfl
    have fq0 := hbk.free 0
    have fq1 := hbk.free 1
    have fq2 := hbk.free 2
    have fq3 := hbk.free 3
    have fq4 := hbk.free 4
    have fq5 := hbk.free 5
    have fq6 := hbk.free 6
    have fq7 := hbk.free 7
    have fq8 := hbk.free 8
    have lq := hbk.lt
    clear hbk
    go_upto_region 13 with fail
    obtain ⟨w6, hw⟩ : ∃ W, World.setCell (World.setCell (w5) ⟨gb, 1, none⟩ (.int .i64 V2)) ⟨gb, 2, none⟩ (.int .i64 V3) = W := ⟨_, rfl⟩
    rw [hw]
    clear q0 q1 q2 q3 q4 q5 q6 q7 q8 fq0 fq1 fq2 fq3 fq4 fq5 fq6 fq7 fq8 lq
    have H6 : Hid (RG w w6 26 r gb p _ F [.int .i64 1, .int .i64 V2, .int .i64 V3, .slice none 0 0, .int .i64 0, .int .i64 0, .int .i64 0, .int .i64 0, .int .i64 0] [.int .i64 0, .int .i64 0, .int .i64 0, .slice none 0 0, .int .i64 0, .int .i64 0, .int .i64 0, .int .i64 0, .int .i64 0]) := Lib.hid (by rw [← hw]; exact ((H5.out.set 1 (.int .i64 V2)).set 2 (.int .i64 V3)))
    have HMS : Hid (Mod (fun k => k = gb) w5 w6) := Lib.hid (by rw [← hw]; exact (((Mod.refl _ _).trans (show Mod (fun k => k = gb) _ _ from Mod.setCell _ _ _ rfl) (H := fun k => k = gb) (fun _ _ e => e) (fun _ _ e => e)).trans (show Mod (fun k => k = gb) _ _ from Mod.setCell _ _ _ rfl) (H := fun k => k = gb) (fun _ _ e => e) (fun _ _ e => e)))
    clear hw
    have hbk := H6.out.g
    have q0 := hbk.cell 0 rfl
    have q1 := hbk.cell 1 rfl
    have q2 := hbk.cell 2 rfl
    have q3 := hbk.cell 3 rfl
    have q4 := hbk.cell 4 rfl
    have q5 := hbk.cell 5 rfl
    have q6 := hbk.cell 6 rfl
    have q7 := hbk.cell 7 rfl
    have q8 := hbk.cell 8 rfl
    have lq := hbk.lt
    clear hbk
    have hbk := H6.out.z
    have z0 := hbk.cell 0 rfl
    have z1 := hbk.cell 1 rfl
    have z2 := hbk.cell 2 rfl
    have z3 := hbk.cell 3 rfl
    have z4 := hbk.cell 4 rfl
    have z5 := hbk.cell 5 rfl
    have z6 := hbk.cell 6 rfl
    have z7 := hbk.cell 7 rfl
    have z8 := hbk.cell 8 rfl
    have fz0 := hbk.free 0
    have fz1 := hbk.free 1
    have fz2 := hbk.free 2
    have fz3 := hbk.free 3
    have fz4 := hbk.free 4
    have fz5 := hbk.free 5
    have fz6 := hbk.free 6
    have fz7 := hbk.free 7
    have fz8 := hbk.free 8
    have lz := hbk.lt
    clear hbk
    have hgr := H6.out.gr
    go_wp2_with fail
    have b2 := (((((((((H6.out.setZ 0 (.int .i64 1)).setZ 1 (.int .i64 V2)).setZ 2 (.int .i64 V3)).setZ 3 (.slice none 0 0)).setZ 4 (.int .i64 0)).setZ 5 (.int .i64 0)).setZ 6 (.int .i64 0)).setZ 7 (.int .i64 0)).setZ 8 (.int .i64 0)).z
    (try simp only [Exit.inBlock, Exit.then])
    refine bodyPost_ret (results_cell_row rfl _ _ r 26 #[.int .i64 1, .int .i64 V2, .int .i64 V3, .slice none 0 0, .int .i64 0, .int .i64 0, .int .i64 0, .int .i64 0, .int .i64 0] (0, 0) _ rfl b2 Try.underlying26 rfl (by kernel_rfl)) rfl ?_
    refine ⟨none, 0, ?_, ?_, (((((((((H6.out.setZ 0 (.int .i64 1)).setZ 1 (.int .i64 V2)).setZ 2 (.int .i64 V3)).setZ 3 (.slice none 0 0)).setZ 4 (.int .i64 0)).setZ 5 (.int .i64 0)).setZ 6 (.int .i64 0)).setZ 7 (.int .i64 0)).setZ 8 (.int .i64 0)).mod⟩
    · rw [HP.out, PK.out]; rfl
    · rw [HP.out, PK.out]; exact World.ownsRow_nil _ _ _ _
  case neg =>
    by_cases k2 : V1 = 2
    case pos =>
      subst k2
      obtain ⟨V2, S2, e2⟩ : ∃ V S, numR 2 S1 = (V, S) := ⟨_, _, rfl⟩
      have R2 : ∀ x ∈ S2.getD [], 0 ≤ x ∧ x < 256 := fun x hx => R1 x (numR_sub (size := 2) x (by rw [e2]; exact hx))
      have PK : Hid (rdK 2 S1 = ⟨2, V2, 0, [], 0, 0, 0, 0, 0⟩) := Lib.hid (by unfold rdK; rw [if_neg (by decide), if_pos (by decide), e2])
      have E2 := Lib.hid e2
      clear e2
      go_wp2_with fail
      refine (num_any p _ S1 F H3.out.rd R1 2).mono ?_
      rw [E2.out]
      rintro e w4 ⟨rfl, hR, hM⟩
      have H4 := Lib.hid (H3.out.aft hR hM)
      clear hR hM
      have hbk := H4.out.g
      have q0 := hbk.cell 0 rfl
      have q1 := hbk.cell 1 rfl
      have q2 := hbk.cell 2 rfl
      have q3 := hbk.cell 3 rfl
      have q4 := hbk.cell 4 rfl
      have q5 := hbk.cell 5 rfl
      have q6 := hbk.cell 6 rfl
      have q7 := hbk.cell 7 rfl
      have q8 := hbk.cell 8 rfl
      have fq0 := hbk.free 0
      have fq1 := hbk.free 1
      have fq2 := hbk.free 2
      have fq3 := hbk.free 3
      have fq4 := hbk.free 4
      have fq5 := hbk.free 5
      have fq6 := hbk.free 6
      have fq7 := hbk.free 7
      have fq8 := hbk.free 8
      have lq := hbk.lt
      clear hbk
      go_upto_region 13 with fail
      obtain ⟨w5, hw⟩ : ∃ W, World.setCell (w4) ⟨gb, 1, none⟩ (.int .i64 V2) = W := ⟨_, rfl⟩
      rw [hw]
      clear q0 q1 q2 q3 q4 q5 q6 q7 q8 fq0 fq1 fq2 fq3 fq4 fq5 fq6 fq7 fq8 lq
      have H5 : Hid (RG w w5 26 r gb p _ F [.int .i64 2, .int .i64 V2, .int .i64 0, .slice none 0 0, .int .i64 0, .int .i64 0, .int .i64 0, .int .i64 0, .int .i64 0] [.int .i64 0, .int .i64 0, .int .i64 0, .slice none 0 0, .int .i64 0, .int .i64 0, .int .i64 0, .int .i64 0, .int .i64 0]) := Lib.hid (by rw [← hw]; exact (H4.out.set 1 (.int .i64 V2)))
      have HMS : Hid (Mod (fun k => k = gb) w4 w5) := Lib.hid (by rw [← hw]; exact ((Mod.refl _ _).trans (show Mod (fun k => k = gb) _ _ from Mod.setCell _ _ _ rfl) (H := fun k => k = gb) (fun _ _ e => e) (fun _ _ e => e)))
      clear hw
      have hbk := H5.out.g
      have q0 := hbk.cell 0 rfl
      have q1 := hbk.cell 1 rfl
      have q2 := hbk.cell 2 rfl
      have q3 := hbk.cell 3 rfl
      have q4 := hbk.cell 4 rfl
      have q5 := hbk.cell 5 rfl
      have q6 := hbk.cell 6 rfl
      have q7 := hbk.cell 7 rfl
      have q8 := hbk.cell 8 rfl
      have lq := hbk.lt
      clear hbk
      have hbk := H5.out.z
      have z0 := hbk.cell 0 rfl
      have z1 := hbk.cell 1 rfl
      have z2 := hbk.cell 2 rfl
      have z3 := hbk.cell 3 rfl
      have z4 := hbk.cell 4 rfl
      have z5 := hbk.cell 5 rfl
      have z6 := hbk.cell 6 rfl
      have z7 := hbk.cell 7 rfl
      have z8 := hbk.cell 8 rfl
      have fz0 := hbk.free 0
      have fz1 := hbk.free 1
      have fz2 := hbk.free 2
      have fz3 := hbk.free 3
      have fz4 := hbk.free 4
      have fz5 := hbk.free 5
      have fz6 := hbk.free 6
      have fz7 := hbk.free 7
      have fz8 := hbk.free 8
      have lz := hbk.lt
      clear hbk
      have hgr := H5.out.gr
      go_wp2_with fail
      have b2 := (((((((((H5.out.setZ 0 (.int .i64 2)).setZ 1 (.int .i64 V2)).setZ 2 (.int .i64 0)).setZ 3 (.slice none 0 0)).setZ 4 (.int .i64 0)).setZ 5 (.int .i64 0)).setZ 6 (.int .i64 0)).setZ 7 (.int .i64 0)).setZ 8 (.int .i64 0)).z
      (try simp only [Exit.inBlock, Exit.then])
      refine bodyPost_ret (results_cell_row rfl _ _ r 26 #[.int .i64 2, .int .i64 V2, .int .i64 0, .slice none 0 0, .int .i64 0, .int .i64 0, .int .i64 0, .int .i64 0, .int .i64 0] (0, 0) _ rfl b2 Try.underlying26 rfl (by kernel_rfl)) rfl ?_
      refine ⟨none, 0, ?_, ?_, (((((((((H5.out.setZ 0 (.int .i64 2)).setZ 1 (.int .i64 V2)).setZ 2 (.int .i64 0)).setZ 3 (.slice none 0 0)).setZ 4 (.int .i64 0)).setZ 5 (.int .i64 0)).setZ 6 (.int .i64 0)).setZ 7 (.int .i64 0)).setZ 8 (.int .i64 0)).mod⟩
      · rw [HP.out, PK.out]; rfl
      · rw [HP.out, PK.out]; exact World.ownsRow_nil _ _ _ _
    case neg =>
      by_cases k9 : V1 = 9
      case pos =>
        subst k9
        obtain ⟨V2, S2, e2⟩ : ∃ V S, numR 2 S1 = (V, S) := ⟨_, _, rfl⟩
        have R2 : ∀ x ∈ S2.getD [], 0 ≤ x ∧ x < 256 := fun x hx => R1 x (numR_sub (size := 2) x (by rw [e2]; exact hx))
        have PK : Hid (rdK 9 S1 = ⟨9, V2, 0, [], 0, 0, 0, 0, 0⟩) := Lib.hid (by unfold rdK; rw [if_neg (by decide), if_pos (by decide), e2])
        have E2 := Lib.hid e2
        clear e2
        go_wp2_with fail
        refine (num_any p _ S1 F H3.out.rd R1 2).mono ?_
        rw [E2.out]
        rintro e w4 ⟨rfl, hR, hM⟩
        have H4 := Lib.hid (H3.out.aft hR hM)
        clear hR hM
        have hbk := H4.out.g
        have q0 := hbk.cell 0 rfl
        have q1 := hbk.cell 1 rfl
        have q2 := hbk.cell 2 rfl
        have q3 := hbk.cell 3 rfl
        have q4 := hbk.cell 4 rfl
        have q5 := hbk.cell 5 rfl
        have q6 := hbk.cell 6 rfl
        have q7 := hbk.cell 7 rfl
        have q8 := hbk.cell 8 rfl
        have fq0 := hbk.free 0
        have fq1 := hbk.free 1
        have fq2 := hbk.free 2
        have fq3 := hbk.free 3
        have fq4 := hbk.free 4
        have fq5 := hbk.free 5
        have fq6 := hbk.free 6
        have fq7 := hbk.free 7
        have fq8 := hbk.free 8
        have lq := hbk.lt
        clear hbk
        go_upto_region 13 with fail
        obtain ⟨w5, hw⟩ : ∃ W, World.setCell (w4) ⟨gb, 1, none⟩ (.int .i64 V2) = W := ⟨_, rfl⟩
        rw [hw]
        clear q0 q1 q2 q3 q4 q5 q6 q7 q8 fq0 fq1 fq2 fq3 fq4 fq5 fq6 fq7 fq8 lq
        have H5 : Hid (RG w w5 26 r gb p _ F [.int .i64 9, .int .i64 V2, .int .i64 0, .slice none 0 0, .int .i64 0, .int .i64 0, .int .i64 0, .int .i64 0, .int .i64 0] [.int .i64 0, .int .i64 0, .int .i64 0, .slice none 0 0, .int .i64 0, .int .i64 0, .int .i64 0, .int .i64 0, .int .i64 0]) := Lib.hid (by rw [← hw]; exact (H4.out.set 1 (.int .i64 V2)))
        have HMS : Hid (Mod (fun k => k = gb) w4 w5) := Lib.hid (by rw [← hw]; exact ((Mod.refl _ _).trans (show Mod (fun k => k = gb) _ _ from Mod.setCell _ _ _ rfl) (H := fun k => k = gb) (fun _ _ e => e) (fun _ _ e => e)))
        clear hw
        have hbk := H5.out.g
        have q0 := hbk.cell 0 rfl
        have q1 := hbk.cell 1 rfl
        have q2 := hbk.cell 2 rfl
        have q3 := hbk.cell 3 rfl
        have q4 := hbk.cell 4 rfl
        have q5 := hbk.cell 5 rfl
        have q6 := hbk.cell 6 rfl
        have q7 := hbk.cell 7 rfl
        have q8 := hbk.cell 8 rfl
        have lq := hbk.lt
        clear hbk
        have hbk := H5.out.z
        have z0 := hbk.cell 0 rfl
        have z1 := hbk.cell 1 rfl
        have z2 := hbk.cell 2 rfl
        have z3 := hbk.cell 3 rfl
        have z4 := hbk.cell 4 rfl
        have z5 := hbk.cell 5 rfl
        have z6 := hbk.cell 6 rfl
        have z7 := hbk.cell 7 rfl
        have z8 := hbk.cell 8 rfl
        have fz0 := hbk.free 0
        have fz1 := hbk.free 1
        have fz2 := hbk.free 2
        have fz3 := hbk.free 3
        have fz4 := hbk.free 4
        have fz5 := hbk.free 5
        have fz6 := hbk.free 6
        have fz7 := hbk.free 7
        have fz8 := hbk.free 8
        have lz := hbk.lt
        clear hbk
        have hgr := H5.out.gr
        go_wp2_with fail
        have b2 := (((((((((H5.out.setZ 0 (.int .i64 9)).setZ 1 (.int .i64 V2)).setZ 2 (.int .i64 0)).setZ 3 (.slice none 0 0)).setZ 4 (.int .i64 0)).setZ 5 (.int .i64 0)).setZ 6 (.int .i64 0)).setZ 7 (.int .i64 0)).setZ 8 (.int .i64 0)).z
        (try simp only [Exit.inBlock, Exit.then])
        refine bodyPost_ret (results_cell_row rfl _ _ r 26 #[.int .i64 9, .int .i64 V2, .int .i64 0, .slice none 0 0, .int .i64 0, .int .i64 0, .int .i64 0, .int .i64 0, .int .i64 0] (0, 0) _ rfl b2 Try.underlying26 rfl (by kernel_rfl)) rfl ?_
        refine ⟨none, 0, ?_, ?_, (((((((((H5.out.setZ 0 (.int .i64 9)).setZ 1 (.int .i64 V2)).setZ 2 (.int .i64 0)).setZ 3 (.slice none 0 0)).setZ 4 (.int .i64 0)).setZ 5 (.int .i64 0)).setZ 6 (.int .i64 0)).setZ 7 (.int .i64 0)).setZ 8 (.int .i64 0)).mod⟩
        · rw [HP.out, PK.out]; rfl
        · rw [HP.out, PK.out]; exact World.ownsRow_nil _ _ _ _
      case neg =>
        by_cases k5 : V1 = 5
        case pos =>
          subst k5
          obtain ⟨V2, S2, e2⟩ : ∃ V S, numR 5 S1 = (V, S) := ⟨_, _, rfl⟩
          have R2 : ∀ x ∈ S2.getD [], 0 ≤ x ∧ x < 256 := fun x hx => R1 x (numR_sub (size := 5) x (by rw [e2]; exact hx))
          have L2 : (S2.getD []).length ≤ b.length := by have := @numR_len 5 S1; rw [e2] at this; exact Nat.le_trans this L1
          obtain ⟨el, S3, e3⟩ : ∃ V S, rdEs S2 = (V, S) := ⟨_, _, rfl⟩
          have PK : Hid (rdK 5 S1 = ⟨5, 0, 0, el, V2, 0, 0, 0, 0⟩) := Lib.hid (by unfold rdK; rw [if_neg (by decide), if_neg (by decide), if_pos rfl, e2]; simp only []; rw [e3])
          have E2 := Lib.hid e2
          have E3 := Lib.hid e3
          clear e2 e3
          go_wp2_with fail
          refine (num_any p _ S1 F H3.out.rd R1 5).mono ?_
          rw [E2.out]
          rintro e w4 ⟨rfl, hR, hM⟩
          have H4 := Lib.hid (H3.out.aft hR hM)
          clear hR hM
          go_wp2_with fail
          refine (redges_any _ p S2 F H4.out.rd R2 (by have := HN.out; omega)).mono ?_
          rintro e w8 hh
          unfold REdP at hh
          rw [E3.out] at hh
          obtain ⟨a8, c8, rfl, hF, hR, hM⟩ := hh
          have H8 := Lib.hid (H4.out.aft hR hM)
          obtain ⟨m8, hm8⟩ : ∃ x, el.length = x := ⟨_, rfl⟩
          have HM8 := Lib.hid hm8
          have hA8 : ∀ k, Value.ownBlock (.slice a8 el.length c8) = some k → k ≠ gb ∧ k ≠ r := fun k hk => by have h1 := (hF.lt k hk).1; have h2 := H4.out.g.lt; have h3 := H4.out.z.lt; omega
          have hF8 := Own.base hF (show w.heap.size ≤ w4.heap.size from H4.out.mod.size)
          have HA8 := Lib.hid hA8
          have HF8 := Lib.hid hF8
          clear hF hR hM hA8 hF8
          simp only []
          rw [hm8] at HA8 HF8 ⊢
          clear hm8
          have hbk := H8.out.g
          have q0 := hbk.cell 0 rfl
          have q1 := hbk.cell 1 rfl
          have q2 := hbk.cell 2 rfl
          have q3 := hbk.cell 3 rfl
          have q4 := hbk.cell 4 rfl
          have q5 := hbk.cell 5 rfl
          have q6 := hbk.cell 6 rfl
          have q7 := hbk.cell 7 rfl
          have q8 := hbk.cell 8 rfl
          have fq0 := hbk.free 0
          have fq1 := hbk.free 1
          have fq2 := hbk.free 2
          have fq3 := hbk.free 3
          have fq4 := hbk.free 4
          have fq5 := hbk.free 5
          have fq6 := hbk.free 6
          have fq7 := hbk.free 7
          have fq8 := hbk.free 8
          have lq := hbk.lt
          clear hbk
          go_upto_region 13 with fail
          obtain ⟨w9, hw⟩ : ∃ W, World.setCell (World.setCell (w8) ⟨gb, 4, none⟩ (.int .i64 V2)) ⟨gb, 3, none⟩ (.slice a8 m8 c8) = W := ⟨_, rfl⟩
          rw [hw]
          clear q0 q1 q2 q3 q4 q5 q6 q7 q8 fq0 fq1 fq2 fq3 fq4 fq5 fq6 fq7 fq8 lq
          have H9 : Hid (RG w w9 26 r gb p _ F [.int .i64 5, .int .i64 0, .int .i64 0, .slice a8 m8 c8, .int .i64 V2, .int .i64 0, .int .i64 0, .int .i64 0, .int .i64 0] [.int .i64 0, .int .i64 0, .int .i64 0, .slice none 0 0, .int .i64 0, .int .i64 0, .int .i64 0, .int .i64 0, .int .i64 0]) := Lib.hid (by rw [← hw]; exact ((H8.out.set 4 (.int .i64 V2)).set 3 (.slice a8 m8 c8)))
          have HMS : Hid (Mod (fun k => k = gb) w8 w9) := Lib.hid (by rw [← hw]; exact (((Mod.refl _ _).trans (show Mod (fun k => k = gb) _ _ from Mod.setCell _ _ _ rfl) (H := fun k => k = gb) (fun _ _ e => e) (fun _ _ e => e)).trans (show Mod (fun k => k = gb) _ _ from Mod.setCell _ _ _ rfl) (H := fun k => k = gb) (fun _ _ e => e) (fun _ _ e => e)))
          clear hw
          have hbk := H9.out.g
          have q0 := hbk.cell 0 rfl
          have q1 := hbk.cell 1 rfl
          have q2 := hbk.cell 2 rfl
          have q3 := hbk.cell 3 rfl
          have q4 := hbk.cell 4 rfl
          have q5 := hbk.cell 5 rfl
          have q6 := hbk.cell 6 rfl
          have q7 := hbk.cell 7 rfl
          have q8 := hbk.cell 8 rfl
          have lq := hbk.lt
          clear hbk
          have hbk := H9.out.z
          have z0 := hbk.cell 0 rfl
          have z1 := hbk.cell 1 rfl
          have z2 := hbk.cell 2 rfl
          have z3 := hbk.cell 3 rfl
          have z4 := hbk.cell 4 rfl
          have z5 := hbk.cell 5 rfl
          have z6 := hbk.cell 6 rfl
          have z7 := hbk.cell 7 rfl
          have z8 := hbk.cell 8 rfl
          have fz0 := hbk.free 0
          have fz1 := hbk.free 1
          have fz2 := hbk.free 2
          have fz3 := hbk.free 3
          have fz4 := hbk.free 4
          have fz5 := hbk.free 5
          have fz6 := hbk.free 6
          have fz7 := hbk.free 7
          have fz8 := hbk.free 8
          have lz := hbk.lt
          clear hbk
          have hgr := H9.out.gr
          go_wp2_with fail
          have b2 := (((((((((H9.out.setZ 0 (.int .i64 5)).setZ 1 (.int .i64 0)).setZ 2 (.int .i64 0)).setZ 3 (.slice a8 m8 c8)).setZ 4 (.int .i64 V2)).setZ 5 (.int .i64 0)).setZ 6 (.int .i64 0)).setZ 7 (.int .i64 0)).setZ 8 (.int .i64 0)).z
          (try simp only [Exit.inBlock, Exit.then])
          refine bodyPost_ret (results_cell_row rfl _ _ r 26 #[.int .i64 5, .int .i64 0, .int .i64 0, .slice a8 m8 c8, .int .i64 V2, .int .i64 0, .int .i64 0, .int .i64 0, .int .i64 0] (0, 0) _ rfl b2 Try.underlying26 rfl (by kernel_rfl)) rfl ?_
          have hm8 := HM8.out
          subst hm8
          have k1 := Own.keep HF8.out HMS.out (fun k hk e => (HA8.out k hk).1 e)
          have k2 := Own.keep k1 (Mod.set9 w9 r (.int .i64 5) (.int .i64 0) (.int .i64 0) (.slice a8 el.length c8) (.int .i64 V2) (.int .i64 0) (.int .i64 0) (.int .i64 0) (.int .i64 0)) (fun k hk e => (HA8.out k hk).2 e)
          have k3 := ((((((((((H9.out.setZ 0 (.int .i64 5)).setZ 1 (.int .i64 0)).setZ 2 (.int .i64 0)).setZ 3 (.slice a8 el.length c8)).setZ 4 (.int .i64 V2)).setZ 5 (.int .i64 0)).setZ 6 (.int .i64 0)).setZ 7 (.int .i64 0)).setZ 8 (.int .i64 0))).mod
          refine ⟨a8, c8, ?_, ?_, k3⟩
          · rw [HP.out, PK.out]; rfl
          · rw [HP.out, PK.out]; exact k2
        case neg =>
          by_cases k7 : V1 = 7
          case pos =>
            subst k7
            obtain ⟨V2, S2, e2⟩ : ∃ V S, numR 1 S1 = (V, S) := ⟨_, _, rfl⟩
            have R2 : ∀ x ∈ S2.getD [], 0 ≤ x ∧ x < 256 := fun x hx => R1 x (numR_sub (size := 1) x (by rw [e2]; exact hx))
            obtain ⟨V3, S3, e3⟩ : ∃ V S, numR 2 S2 = (V, S) := ⟨_, _, rfl⟩
            have R3 : ∀ x ∈ S3.getD [], 0 ≤ x ∧ x < 256 := fun x hx => R2 x (numR_sub (size := 2) x (by rw [e3]; exact hx))
            obtain ⟨V4, S4, e4⟩ : ∃ V S, numR 5 S3 = (V, S) := ⟨_, _, rfl⟩
            have R4 : ∀ x ∈ S4.getD [], 0 ≤ x ∧ x < 256 := fun x hx => R3 x (numR_sub (size := 5) x (by rw [e4]; exact hx))
            obtain ⟨V5, S5, e5⟩ : ∃ V S, numR 5 S4 = (V, S) := ⟨_, _, rfl⟩
            have R5 : ∀ x ∈ S5.getD [], 0 ≤ x ∧ x < 256 := fun x hx => R4 x (numR_sub (size := 5) x (by rw [e5]; exact hx))
            have B3 : 0 ≤ V3 ∧ V3 ≤ 65535 := by have := numR2_bd R2; rw [e3] at this; exact this
            have B31 := B3.1
            have B32 := B3.2
            clear B3
            have PK : Hid (rdK 7 S1 = ⟨7, 0, 0, [], 0, V2, V3 - 1, V4, V5⟩) := Lib.hid (by unfold rdK; rw [if_neg (by decide), if_neg (by decide), if_neg (by decide), if_pos rfl, e2]; simp only []; rw [e3]; simp only []; rw [e4]; simp only []; rw [e5])
            have E2 := Lib.hid e2
            have E3 := Lib.hid e3
            have E4 := Lib.hid e4
            have E5 := Lib.hid e5
            clear e2 e3 e4 e5
            go_wp2_with fail
            refine (num_any p _ S1 F H3.out.rd R1 1).mono ?_
            rw [E2.out]
            rintro e w4 ⟨rfl, hR, hM⟩
            have H4 := Lib.hid (H3.out.aft hR hM)
            clear hR hM
            go_wp2_with fail
            refine (num_any p _ S2 F H4.out.rd R2 2).mono ?_
            rw [E3.out]
            rintro e w5 ⟨rfl, hR, hM⟩
            have H5 := Lib.hid (H4.out.aft hR hM)
            clear hR hM
            go_wp2_with fail
            refine (num_any p _ S3 F H5.out.rd R3 5).mono ?_
            rw [E4.out]
            rintro e w6 ⟨rfl, hR, hM⟩
            have H6 := Lib.hid (H5.out.aft hR hM)
            clear hR hM
            go_wp2_with fail
            refine (num_any p _ S4 F H6.out.rd R4 5).mono ?_
            rw [E5.out]
            rintro e w7 ⟨rfl, hR, hM⟩
            have H7 := Lib.hid (H6.out.aft hR hM)
            clear hR hM
            have hbk := H7.out.g
            have q0 := hbk.cell 0 rfl
            have q1 := hbk.cell 1 rfl
            have q2 := hbk.cell 2 rfl
            have q3 := hbk.cell 3 rfl
            have q4 := hbk.cell 4 rfl
            have q5 := hbk.cell 5 rfl
            have q6 := hbk.cell 6 rfl
            have q7 := hbk.cell 7 rfl
            have q8 := hbk.cell 8 rfl
            have fq0 := hbk.free 0
            have fq1 := hbk.free 1
            have fq2 := hbk.free 2
            have fq3 := hbk.free 3
            have fq4 := hbk.free 4
            have fq5 := hbk.free 5
            have fq6 := hbk.free 6
            have fq7 := hbk.free 7
            have fq8 := hbk.free 8
            have lq := hbk.lt
            clear hbk
            go_upto_region 13 with fail
            obtain ⟨w8, hw⟩ : ∃ W, World.setCell (World.setCell (World.setCell (World.setCell (w7) ⟨gb, 5, none⟩ (.int .i64 V2)) ⟨gb, 6, none⟩ (.int .i64 (V3 - 1))) ⟨gb, 7, none⟩ (.int .i64 V4)) ⟨gb, 8, none⟩ (.int .i64 V5) = W := ⟨_, rfl⟩
            rw [hw]
            clear q0 q1 q2 q3 q4 q5 q6 q7 q8 fq0 fq1 fq2 fq3 fq4 fq5 fq6 fq7 fq8 lq
            have H8 : Hid (RG w w8 26 r gb p _ F [.int .i64 7, .int .i64 0, .int .i64 0, .slice none 0 0, .int .i64 0, .int .i64 V2, .int .i64 (V3 - 1), .int .i64 V4, .int .i64 V5] [.int .i64 0, .int .i64 0, .int .i64 0, .slice none 0 0, .int .i64 0, .int .i64 0, .int .i64 0, .int .i64 0, .int .i64 0]) := Lib.hid (by rw [← hw]; exact ((((H7.out.set 5 (.int .i64 V2)).set 6 (.int .i64 (V3 - 1))).set 7 (.int .i64 V4)).set 8 (.int .i64 V5)))
            have HMS : Hid (Mod (fun k => k = gb) w7 w8) := Lib.hid (by rw [← hw]; exact (((((Mod.refl _ _).trans (show Mod (fun k => k = gb) _ _ from Mod.setCell _ _ _ rfl) (H := fun k => k = gb) (fun _ _ e => e) (fun _ _ e => e)).trans (show Mod (fun k => k = gb) _ _ from Mod.setCell _ _ _ rfl) (H := fun k => k = gb) (fun _ _ e => e) (fun _ _ e => e)).trans (show Mod (fun k => k = gb) _ _ from Mod.setCell _ _ _ rfl) (H := fun k => k = gb) (fun _ _ e => e) (fun _ _ e => e)).trans (show Mod (fun k => k = gb) _ _ from Mod.setCell _ _ _ rfl) (H := fun k => k = gb) (fun _ _ e => e) (fun _ _ e => e)))
            clear hw
            have hbk := H8.out.g
            have q0 := hbk.cell 0 rfl
            have q1 := hbk.cell 1 rfl
            have q2 := hbk.cell 2 rfl
            have q3 := hbk.cell 3 rfl
            have q4 := hbk.cell 4 rfl
            have q5 := hbk.cell 5 rfl
            have q6 := hbk.cell 6 rfl
            have q7 := hbk.cell 7 rfl
            have q8 := hbk.cell 8 rfl
            have lq := hbk.lt
            clear hbk
            have hbk := H8.out.z
            have z0 := hbk.cell 0 rfl
            have z1 := hbk.cell 1 rfl
            have z2 := hbk.cell 2 rfl
            have z3 := hbk.cell 3 rfl
            have z4 := hbk.cell 4 rfl
            have z5 := hbk.cell 5 rfl
            have z6 := hbk.cell 6 rfl
            have z7 := hbk.cell 7 rfl
            have z8 := hbk.cell 8 rfl
            have fz0 := hbk.free 0
            have fz1 := hbk.free 1
            have fz2 := hbk.free 2
            have fz3 := hbk.free 3
            have fz4 := hbk.free 4
            have fz5 := hbk.free 5
            have fz6 := hbk.free 6
            have fz7 := hbk.free 7
            have fz8 := hbk.free 8
            have lz := hbk.lt
            clear hbk
            have hgr := H8.out.gr
            go_wp2_with fail
            have b2 := (((((((((H8.out.setZ 0 (.int .i64 7)).setZ 1 (.int .i64 0)).setZ 2 (.int .i64 0)).setZ 3 (.slice none 0 0)).setZ 4 (.int .i64 0)).setZ 5 (.int .i64 V2)).setZ 6 (.int .i64 (V3 - 1))).setZ 7 (.int .i64 V4)).setZ 8 (.int .i64 V5)).z
            (try simp only [Exit.inBlock, Exit.then])
            refine bodyPost_ret (results_cell_row rfl _ _ r 26 #[.int .i64 7, .int .i64 0, .int .i64 0, .slice none 0 0, .int .i64 0, .int .i64 V2, .int .i64 (V3 - 1), .int .i64 V4, .int .i64 V5] (0, 0) _ rfl b2 Try.underlying26 rfl (by kernel_rfl)) rfl ?_
            refine ⟨none, 0, ?_, ?_, (((((((((H8.out.setZ 0 (.int .i64 7)).setZ 1 (.int .i64 0)).setZ 2 (.int .i64 0)).setZ 3 (.slice none 0 0)).setZ 4 (.int .i64 0)).setZ 5 (.int .i64 V2)).setZ 6 (.int .i64 (V3 - 1))).setZ 7 (.int .i64 V4)).setZ 8 (.int .i64 V5)).mod⟩
            · rw [HP.out, PK.out]; rfl
            · rw [HP.out, PK.out]; exact World.ownsRow_nil _ _ _ _
          case neg =>
            have z1 : (V1 == 1) = false := beq_eq_false_iff_ne.2 k1
            have z2 : (V1 == 2) = false := beq_eq_false_iff_ne.2 k2
            have z9 : (V1 == 9) = false := beq_eq_false_iff_ne.2 k9
            have z5 : (V1 == 5) = false := beq_eq_false_iff_ne.2 k5
            have z7 : (V1 == 7) = false := beq_eq_false_iff_ne.2 k7
            have PK : Hid (rdK V1 S1 = ⟨V1, 0, 0, [], 0, 0, 0, 0, 0⟩) := Lib.hid (by unfold rdK; rw [if_neg k1, if_neg (fun h => h.elim k2 k9), if_neg k5, if_neg k7])
            clear k1 k2 k9 k5 k7
            have hbk := H3.out.g
            have q0 := hbk.cell 0 rfl
            have q1 := hbk.cell 1 rfl
            have q2 := hbk.cell 2 rfl
            have q3 := hbk.cell 3 rfl
            have q4 := hbk.cell 4 rfl
            have q5 := hbk.cell 5 rfl
            have q6 := hbk.cell 6 rfl
            have q7 := hbk.cell 7 rfl
            have q8 := hbk.cell 8 rfl
            have lq := hbk.lt
            clear hbk
            have hbk := H3.out.z
            have z0 := hbk.cell 0 rfl
            have z1 := hbk.cell 1 rfl
            have z2 := hbk.cell 2 rfl
            have z3 := hbk.cell 3 rfl
            have z4 := hbk.cell 4 rfl
            have z5 := hbk.cell 5 rfl
            have z6 := hbk.cell 6 rfl
            have z7 := hbk.cell 7 rfl
            have z8 := hbk.cell 8 rfl
            have fz0 := hbk.free 0
            have fz1 := hbk.free 1
            have fz2 := hbk.free 2
            have fz3 := hbk.free 3
            have fz4 := hbk.free 4
            have fz5 := hbk.free 5
            have fz6 := hbk.free 6
            have fz7 := hbk.free 7
            have fz8 := hbk.free 8
            have lz := hbk.lt
            clear hbk
            have hgr := H3.out.gr
            go_wp2_with fail
            have b2 := (((((((((H3.out.setZ 0 (.int .i64 V1)).setZ 1 (.int .i64 0)).setZ 2 (.int .i64 0)).setZ 3 (.slice none 0 0)).setZ 4 (.int .i64 0)).setZ 5 (.int .i64 0)).setZ 6 (.int .i64 0)).setZ 7 (.int .i64 0)).setZ 8 (.int .i64 0)).z
            (try simp only [Exit.inBlock, Exit.then])
            refine bodyPost_ret (results_cell_row rfl _ _ r 26 #[.int .i64 V1, .int .i64 0, .int .i64 0, .slice none 0 0, .int .i64 0, .int .i64 0, .int .i64 0, .int .i64 0, .int .i64 0] (0, 0) _ rfl b2 Try.underlying26 rfl (by kernel_rfl)) rfl ?_
            refine ⟨none, 0, ?_, ?_, (((((((((H3.out.setZ 0 (.int .i64 V1)).setZ 1 (.int .i64 0)).setZ 2 (.int .i64 0)).setZ 3 (.slice none 0 0)).setZ 4 (.int .i64 0)).setZ 5 (.int .i64 0)).setZ 6 (.int .i64 0)).setZ 7 (.int .i64 0)).setZ 8 (.int .i64 0)).mod⟩
            · rw [HP.out, PK.out]; rfl
            · rw [HP.out, PK.out]; exact World.ownsRow_nil _ _ _ _
end Go.Proofs.Ytabfmnlpipbegaa
namespace Go.Proofs.Ytabfmnlpipbegaa
open Go.RowKit Mile
set_option maxRecDepth 100000
def zM : MsD := ⟨0, 0, 0, [], 0, 0, 0, 0, 0⟩
/-- What bytes are read as. -/
def decM (b : List Int) : MsD × Int := if mBytes (rdM b) = some b then (rdM b, 0) else (zM, 2)
theorem mBytes_range {m : MsD} {bs : List Int} (h : mBytes m = some bs) : ∀ x ∈ bs, 0 ≤ x ∧ x < 256 := by
  have k0 : ∀ x ∈ (some ([] : List Int)).getD [], 0 ≤ x ∧ x < 256 := by intro x hx; cases hx
  have st : ∀ (size : Int) (l : List Int) (s : Option (List Int)), (∀ x ∈ s.getD [], 0 ≤ x ∧ x < 256) → ∀ x ∈ (numsS size l s).getD [], 0 ≤ x ∧ x < 256 := fun size l s hs => by
    cases hh : numsS size l s with
    | none => intro x hx; cases hx
    | some y => intro x hx; exact nums_range (fun bs e => by subst e; exact hs) hh x hx
  have fin : ∀ {s : Option (List Int)}, s = some bs → (∀ x ∈ s.getD [], 0 ≤ x ∧ x < 256) → ∀ x ∈ bs, 0 ≤ x ∧ x < 256 := by intro s e hs; rw [e] at hs; exact hs
  unfold mBytes at h
  split at h
  · exact fin h (st _ _ _ (st _ _ _ k0))
  · split at h
    · exact fin h (st _ _ _ (st _ _ _ k0))
    · split at h
      · split at h
        · cases h
        · exact fin h (st _ _ _ (st _ _ _ (st _ _ _ (st _ _ _ k0))))
      · split at h
        · exact fin h (st _ _ _ (st _ _ _ (st _ _ _ (st _ _ _ k0))))
        · split at h
          · exact fin h (st _ _ _ k0)
          · cases h
theorem rdE_len : ∀ (f : Nat) (n : Int) (S : RS2) (acc : List Int), (rdE f n S acc).1.length ≤ acc.length + (S.getD []).length := by
  intro f
  induction f with
  | zero => intro n S acc; exact Nat.le_add_right _ _
  | succ f ih =>
    intro n S acc
    show (if _ then _ else _ : List Int × RS2).1.length ≤ _
    split
    · rename_i hc
      have h1 := ih n (numR 2 S).2 (acc ++ [(numR 2 S).1])
      have h2 := numR2_less hc.2
      rw [List.length_append] at h1
      simp only [List.length_cons, List.length_nil] at h1
      omega
    · exact Nat.le_add_right _ _
theorem rdM_len (b : List Int) : (rdM b).edges.length ≤ b.length := by
  have h1 : ((numR 1 (some b)).2.getD []).length ≤ b.length := @numR_len 1 (some b)
  have h2 := @numR_len 5 (numR 1 (some b)).2
  have h3 := @numR_len 2 (numR 5 (numR 1 (some b)).2).2
  have h4 := rdE_len ((numR 2 (numR 5 (numR 1 (some b)).2).2).2.getD []).length (numR 2 (numR 5 (numR 1 (some b)).2).2).1 (numR 2 (numR 5 (numR 1 (some b)).2).2).2 []
  rw [List.length_nil] at h4
  unfold rdM rdK
  split
  · simp
  · split
    · simp
    · split
      · show (rdEs (numR 5 (numR 1 (some b)).2).2).1.length ≤ _
        unfold rdEs
        omega
      · split <;> simp
theorem rdM_he {b : List Int} (hb : ∀ x ∈ b, 0 ≤ x ∧ x < 256) : -1 ≤ (rdM b).he ∧ (rdM b).he ≤ 65535 := by
  have hr : ∀ x ∈ (numR 1 (numR 1 (some b)).2).2.getD [], 0 ≤ x ∧ x < 256 := fun x hx => hb x (numR_sub (size := 1) (s := some b) x (numR_sub (size := 1) x hx))
  have h2 := numR2_bd hr
  unfold rdM rdK
  split
  · exact ⟨by show (-1 : Int) ≤ 0; decide, by show (0 : Int) ≤ 65535; decide⟩
  · split
    · exact ⟨by show (-1 : Int) ≤ 0; decide, by show (0 : Int) ≤ 65535; decide⟩
    · split
      · exact ⟨by show (-1 : Int) ≤ 0; decide, by show (0 : Int) ≤ 65535; decide⟩
      · split
        · refine ⟨?_, ?_⟩
          · show (-1 : Int) ≤ (numR 2 (numR 1 (numR 1 (some b)).2).2).1 - 1
            omega
          · show (numR 2 (numR 1 (numR 1 (some b)).2).2).1 - 1 ≤ (65535 : Int)
            omega
        · exact ⟨by show (-1 : Int) ≤ 0; decide, by show (0 : Int) ≤ 65535; decide⟩
/-- What Decode tells. -/
def MDecP (b : List Int) (w : World) (e : Ending) (w' : World) : Prop :=
  ∃ a c, e = .returned (.tuple #[msgV (decM b).1 a (decM b).1.edges.length c, .int .i64 (decM b).2]) ∧ World.ownsRow w' w.heap.size 3 1 (.slice a (decM b).1.edges.length c) (decM b).1.edges.length ((decM b).1.edges.map (Value.int .i64)) ∧ Mod (fun _ => False) w w'
set_option maxHeartbeats 16000000 in
theorem mdecode_any (w : World) (a : Option Addr) (n c : Nat) (b : List Int) (hn : b.length = n) (hr : Rd w 1 (.slice a n c) n (b.map (Value.int .u8))) (hb : ∀ x ∈ b, 0 ≤ x ∧ x < 256) (hnb : n ≤ 2000) :
    Calls Try.prog 12 #[.slice a n c] w (MDecP b w) := by
  have HN := Lib.hid hn
  have HB := Lib.hid hb
  have HDF : Hid (decM b = if mBytes (rdM b) = some b then (rdM b, 0) else (zM, 2)) := Lib.hid rfl
  have hel := rdM_len b
  have hhe := rdM_he hb
  have HRG := Lib.hid (fun bs (h : mBytes (rdM b) = some bs) => mBytes_range h)
  clear hn hb
  obtain ⟨r, hr0⟩ : ∃ b, w.heap.size = b := ⟨_, rfl⟩
  obtain ⟨w0, hw0⟩ : ∃ W, w.alloc (.cells #[.int .i64 0, .int .i64 0, .int .i64 0, .slice none 0 0, .int .i64 0, .int .i64 0, .int .i64 0, .int .i64 0, .int .i64 0] 26) = W := ⟨_, rfl⟩
  have hB : Blk w0 r 26 [.int .i64 0, .int .i64 0, .int .i64 0, .slice none 0 0, .int .i64 0, .int .i64 0, .int .i64 0, .int .i64 0, .int .i64 0] := by rw [← hw0, ← hr0]; exact Blk.new _ _ [.int .i64 0, .int .i64 0, .int .i64 0, .slice none 0 0, .int .i64 0, .int .i64 0, .int .i64 0, .int .i64 0, .int .i64 0]
  have hm0 : Mod (fun _ => False) w w0 := by rw [← hw0]; exact Mod.alloc _ _ _
  have HR := Lib.hid (hr.keep hm0 (fun _ _ e => e))
  have HQ := Lib.hid hB
  have HM0 := Lib.hid hm0
  have hrw : w.heap.size ≤ r := by omega
  clear hB hm0 hr
  go_enter Try.func12, Try.ntmps12
  go_upto_region 1 with fail
  try rw [hw0]
  try rw [hr0]
  clear hw0 hr0
  go_wp2_with fail
  refine (mread_any w0 a n c b HN.out HR.out HB.out (by omega)).mono ?_
  rintro e w2 ⟨a2, c2, rfl, hF2, hm2⟩
  obtain ⟨g, hg⟩ : ∃ g, rdM b = g := ⟨_, rfl⟩
  rw [hg] at hF2 hel hhe HDF HRG ⊢
  clear hg
  obtain ⟨mk, mp, md, ed, mw, mc, me, mf, ml⟩ := g
  replace hF2 : World.ownsRow w2 w0.heap.size 3 1 (.slice a2 ed.length c2) ed.length (ed.map (Value.int .i64)) := hF2
  replace hel : ed.length ≤ b.length := hel
  replace hhe : -1 ≤ me ∧ me ≤ 65535 := hhe
  rw [HN.out] at hel
  unfold msgV
  simp only
  obtain ⟨m2, hmm2⟩ : ∃ x, ed.length = x := ⟨_, rfl⟩
  rw [hmm2] at hF2 hel ⊢
  have HHE := Lib.hid hhe
  have hap : ∀ k, Value.ownBlock (.slice a2 m2 c2) = some k → k ≠ r := fun k hk => by have h1 := (hF2.lt k hk).1; have h2 := HQ.out.lt; omega
  have HAP := Lib.hid hap
  have HM2L := Lib.hid hmm2
  clear hap hmm2 hhe
  go_upto_region 2 with fail
  obtain ⟨gb, hgb⟩ : ∃ b, w2.heap.size = b := ⟨_, rfl⟩
  obtain ⟨w3, hw3⟩ : ∃ W, w2.alloc (.cells #[.int .i64 mk, .int .i64 mp, .int .i64 md, .slice a2 m2 c2, .int .i64 mw, .int .i64 mc, .int .i64 me, .int .i64 mf, .int .i64 ml] 26) = W := ⟨_, rfl⟩
  have hm3 : Mod (fun _ => False) w2 w3 := by rw [← hw3]; exact Mod.alloc _ _ _
  have hB3 : Blk w3 gb 26 [.int .i64 mk, .int .i64 mp, .int .i64 md, .slice a2 m2 c2, .int .i64 mw, .int .i64 mc, .int .i64 me, .int .i64 mf, .int .i64 ml] := by rw [← hw3, ← hgb]; exact Blk.new _ _ [.int .i64 mk, .int .i64 mp, .int .i64 md, .slice a2 m2 c2, .int .i64 mw, .int .i64 mc, .int .i64 me, .int .i64 mf, .int .i64 ml]
  rw [hw3, hgb]
  clear hw3 hgb
  have hm23 := hm2.of2 hm3
  have HQ3 := Lib.hid (HQ.out.keep hm23 (fun e => e))
  have HB3 := Lib.hid hB3
  have HM3 := Lib.hid (HM0.out.of2 hm23)
  have HRB3 := Lib.hid (HR.out.keep hm23 (fun _ _ e => e))
  have HOW := Lib.hid (Own.base (Own.keep hF2 hm3 (fun _ _ e => e)) HM0.out.size)
  clear hm2 hm3 hm23 hB3 hF2 HQ HM0 HR
  have hbk := HB3.out
  have q0 := hbk.cell 0 rfl
  have q1 := hbk.cell 1 rfl
  have q2 := hbk.cell 2 rfl
  have q3 := hbk.cell 3 rfl
  have q4 := hbk.cell 4 rfl
  have q5 := hbk.cell 5 rfl
  have q6 := hbk.cell 6 rfl
  have q7 := hbk.cell 7 rfl
  have q8 := hbk.cell 8 rfl
  have lq := hbk.lt
  clear hbk
  have hec := mencode_any w3 ⟨mk, mp, md, ed, mw, mc, me, mf, ml⟩ a2 m2 c2 HM2L.out (Rd.ofOwn HOW.out) (by omega) ⟨by have := HHE.out.1; simp only; omega, by have := HHE.out.2; simp only; omega⟩
  unfold msgV at hec
  simp only at hec
  have HEC := Lib.hid hec
  clear hec
  go_wp2_with fail
  refine HEC.out.mono ?_
  clear HEC
  rintro e w4 ⟨a4, c4, rfl, hF4, hm4⟩
  have HQ4 := Lib.hid (HQ3.out.keep hm4 (fun e => e))
  have HB4 := Lib.hid (HB3.out.keep hm4 (fun e => e))
  have HM4 := Lib.hid (HM3.out.of2 hm4)
  have HRB4 := Lib.hid (HRB3.out.keep hm4 (fun _ _ e => e))
  have HOW4 := Lib.hid (Own.keep HOW.out hm4 (fun _ _ e => e))
  clear hm4 HQ3 HB3 HM3 HRB3 HOW q0 q1 q2 q3 q4 q5 q6 q7 q8 lq
  obtain ⟨en, hen⟩ : ∃ x, mBytes ⟨mk, mp, md, ed, mw, mc, me, mf, ml⟩ = x := ⟨_, rfl⟩
  rw [hen] at hF4 HDF HRG ⊢
  clear hen
  cases en with
  | none =>
    have HD := Lib.hid (HDF.out.trans (if_neg (by simp)))
    clear HDF HRG hF4
    simp only [Option.isNone_none, if_true]
    have hbk := HQ4.out
    have z0 := hbk.cell 0 rfl
    have z1 := hbk.cell 1 rfl
    have z2 := hbk.cell 2 rfl
    have z3 := hbk.cell 3 rfl
    have z4 := hbk.cell 4 rfl
    have z5 := hbk.cell 5 rfl
    have z6 := hbk.cell 6 rfl
    have z7 := hbk.cell 7 rfl
    have z8 := hbk.cell 8 rfl
    have f0 := hbk.free 0
    have f1 := hbk.free 1
    have f2 := hbk.free 2
    have f3 := hbk.free 3
    have f4 := hbk.free 4
    have f5 := hbk.free 5
    have f6 := hbk.free 6
    have f7 := hbk.free 7
    have f8 := hbk.free 8
    have lz := hbk.lt
    clear hbk
    go_wp2_with fail
    have b2 := (((((((((HQ4.out.set 0 (.int .i64 0)).set 1 (.int .i64 0)).set 2 (.int .i64 0)).set 3 (.slice none 0 0)).set 4 (.int .i64 0)).set 5 (.int .i64 0)).set 6 (.int .i64 0)).set 7 (.int .i64 0)).set 8 (.int .i64 0))
    have k2 := Mod.set9 w4 r (.int .i64 0) (.int .i64 0) (.int .i64 0) (.slice none 0 0) (.int .i64 0) (.int .i64 0) (.int .i64 0) (.int .i64 0) (.int .i64 0)
    (try simp only [Exit.inBlock, Exit.then])
    refine bodyPost_ret (results_row_tmp rfl _ _ r 26 #[.int .i64 0, .int .i64 0, .int .i64 0, .slice none 0 0, .int .i64 0, .int .i64 0, .int .i64 0, .int .i64 0, .int .i64 0] (0, 0) _ rfl b2 Try.underlying26 rfl (by kernel_rfl)) rfl ?_
    exact ⟨none, 0, by rw [HD.out]; rfl, by rw [HD.out]; exact World.ownsRow_nil _ _ _ _, HM4.out.old k2 (fun i hi => by rw [hi]; exact hrw)⟩
  | some bs =>
    have HRX := Lib.hid (HRG.out bs rfl)
    clear HRG
    obtain ⟨L, hL⟩ : ∃ x, bs.length = x := ⟨_, rfl⟩
    have hrd4 : Rd w4 1 (.slice a4 L c4) L (bs.map (Value.int .u8)) := by have h := Rd.ofOwn hF4; rw [show ((some bs).getD []) = bs from rfl, hL] at h; exact h
    have HEQ := Lib.hid (equal_any w4 a4 L c4 bs hL hrd4 HRX.out a n c b HN.out HRB4.out HB.out)
    rw [show ((some bs).getD []).length = L from hL]
    simp only [Option.isNone_some, Bool.false_eq_true, if_false]
    clear hrd4 hL hF4
    go_wp2_with fail
    refine HEQ.out.mono ?_
    rintro e w' ⟨rfl, rfl⟩
    clear HEQ
    by_cases hq : bs = b
    case neg =>
      rw [decide_eq_false hq]
      have HD := Lib.hid (HDF.out.trans (if_neg (fun h => hq (Option.some.inj h))))
      clear hq HDF
      have hbk := HQ4.out
      have z0 := hbk.cell 0 rfl
      have z1 := hbk.cell 1 rfl
      have z2 := hbk.cell 2 rfl
      have z3 := hbk.cell 3 rfl
      have z4 := hbk.cell 4 rfl
      have z5 := hbk.cell 5 rfl
      have z6 := hbk.cell 6 rfl
      have z7 := hbk.cell 7 rfl
      have z8 := hbk.cell 8 rfl
      have f0 := hbk.free 0
      have f1 := hbk.free 1
      have f2 := hbk.free 2
      have f3 := hbk.free 3
      have f4 := hbk.free 4
      have f5 := hbk.free 5
      have f6 := hbk.free 6
      have f7 := hbk.free 7
      have f8 := hbk.free 8
      have lz := hbk.lt
      clear hbk
      go_wp2_with fail
      have b2 := (((((((((HQ4.out.set 0 (.int .i64 0)).set 1 (.int .i64 0)).set 2 (.int .i64 0)).set 3 (.slice none 0 0)).set 4 (.int .i64 0)).set 5 (.int .i64 0)).set 6 (.int .i64 0)).set 7 (.int .i64 0)).set 8 (.int .i64 0))
      have k2 := Mod.set9 w4 r (.int .i64 0) (.int .i64 0) (.int .i64 0) (.slice none 0 0) (.int .i64 0) (.int .i64 0) (.int .i64 0) (.int .i64 0) (.int .i64 0)
      (try simp only [Exit.inBlock, Exit.then])
      refine bodyPost_ret (results_row_tmp rfl _ _ r 26 #[.int .i64 0, .int .i64 0, .int .i64 0, .slice none 0 0, .int .i64 0, .int .i64 0, .int .i64 0, .int .i64 0, .int .i64 0] (0, 0) _ rfl b2 Try.underlying26 rfl (by kernel_rfl)) rfl ?_
      exact ⟨none, 0, by rw [HD.out]; rfl, by rw [HD.out]; exact World.ownsRow_nil _ _ _ _, HM4.out.old k2 (fun i hi => by rw [hi]; exact hrw)⟩
    case pos =>
      rw [decide_eq_true hq]
      have HD := Lib.hid (HDF.out.trans (if_pos (by rw [hq])))
      clear hq HDF
      have hbk := HQ4.out
      have z0 := hbk.cell 0 rfl
      have z1 := hbk.cell 1 rfl
      have z2 := hbk.cell 2 rfl
      have z3 := hbk.cell 3 rfl
      have z4 := hbk.cell 4 rfl
      have z5 := hbk.cell 5 rfl
      have z6 := hbk.cell 6 rfl
      have z7 := hbk.cell 7 rfl
      have z8 := hbk.cell 8 rfl
      have f0 := hbk.free 0
      have f1 := hbk.free 1
      have f2 := hbk.free 2
      have f3 := hbk.free 3
      have f4 := hbk.free 4
      have f5 := hbk.free 5
      have f6 := hbk.free 6
      have f7 := hbk.free 7
      have f8 := hbk.free 8
      have lz := hbk.lt
      clear hbk
      have hbk := HB4.out
      have q0 := hbk.cell 0 rfl
      have q1 := hbk.cell 1 rfl
      have q2 := hbk.cell 2 rfl
      have q3 := hbk.cell 3 rfl
      have q4 := hbk.cell 4 rfl
      have q5 := hbk.cell 5 rfl
      have q6 := hbk.cell 6 rfl
      have q7 := hbk.cell 7 rfl
      have q8 := hbk.cell 8 rfl
      have lq := hbk.lt
      clear hbk
      go_wp2_with fail
      have b2 := (((((((((HQ4.out.set 0 (.int .i64 mk)).set 1 (.int .i64 mp)).set 2 (.int .i64 md)).set 3 (.slice a2 m2 c2)).set 4 (.int .i64 mw)).set 5 (.int .i64 mc)).set 6 (.int .i64 me)).set 7 (.int .i64 mf)).set 8 (.int .i64 ml))
      have k2 := Mod.set9 w4 r (.int .i64 mk) (.int .i64 mp) (.int .i64 md) (.slice a2 m2 c2) (.int .i64 mw) (.int .i64 mc) (.int .i64 me) (.int .i64 mf) (.int .i64 ml)
      (try simp only [Exit.inBlock, Exit.then])
      refine bodyPost_ret (results_row_tmp rfl _ _ r 26 #[.int .i64 mk, .int .i64 mp, .int .i64 md, .slice a2 m2 c2, .int .i64 mw, .int .i64 mc, .int .i64 me, .int .i64 mf, .int .i64 ml] (0, 0) _ rfl b2 Try.underlying26 rfl (by kernel_rfl)) rfl ?_
      have hz := HM4.out.old k2 (fun i hi => by rw [hi]; exact hrw)
      have hm2l := HM2L.out
      subst hm2l
      refine ⟨a2, c2, by rw [HD.out]; rfl, ?_, hz⟩
      rw [HD.out]
      exact Own.keep HOW4.out k2 (fun k hk e => HAP.out k hk e)
end Go.Proofs.Ytabfmnlpipbegaa
namespace Go.Proofs.Ytabfmnlpipbegaa
open Go.RowKit Mile
set_option maxRecDepth 100000
/-- A message, as far as its kind says. -/
def normM (m : MsD) : MsD :=
  if m.kind = 1 then ⟨1, m.pos, m.dest, [], 0, 0, 0, 0, 0⟩
  else if m.kind = 2 ∨ m.kind = 9 then ⟨m.kind, m.pos, 0, [], 0, 0, 0, 0, 0⟩
  else if m.kind = 5 then ⟨5, 0, 0, m.edges, m.weight, 0, 0, 0, 0⟩
  else if m.kind = 7 then ⟨7, 0, 0, [], 0, m.hc, m.he, m.hf, m.hl⟩
  else ⟨m.kind, 0, 0, [], 0, 0, 0, 0, 0⟩
theorem normM_kind (m : MsD) : (normM m).kind = m.kind := by
  unfold normM
  split
  · rename_i h; exact h.symm
  · split
    · rfl
    · split
      · rename_i h; exact h.symm
      · split
        · rename_i h; exact h.symm
        · rfl
theorem mBytes_norm (m : MsD) : mBytes (normM m) = mBytes m := by
  obtain ⟨kind, pos, dest, edges, weight, hc, he, hf, hl⟩ := m
  by_cases h1 : kind = 1
  · subst h1; simp [normM, mBytes]
  · by_cases h2 : kind = 2 ∨ kind = 9
    · unfold normM mBytes; simp only [if_neg h1, if_pos h2]
    · by_cases h3 : kind = 5
      · subst h3; simp [normM, mBytes]
      · by_cases h4 : kind = 7
        · subst h4; simp [normM, mBytes]
        · unfold normM mBytes; simp only [if_neg h1, if_neg h2, if_neg h3, if_neg h4]
/-- What is left behind what is read. -/
def rdKS (k : Int) (S : RS2) : RS2 :=
  if k = 1 then (numR 2 (numR 2 S).2).2
  else if k = 2 ∨ k = 9 then (numR 2 S).2
  else if k = 5 then (rdEs (numR 5 S).2).2
  else if k = 7 then (numR 5 (numR 5 (numR 2 (numR 1 S).2).2).2).2
  else S
def rdMS (b : List Int) : RS2 := rdKS (numR 1 (some b)).1 (numR 1 (some b)).2
def digsL (s : Nat) : List Int → List Int
  | [] => []
  | x :: r => digs x s ++ digsL s r
theorem ok2 : sizeOk ((2 : Nat) : Int) = true := by decide
theorem ok5 : sizeOk ((5 : Nat) : Int) = true := by decide
theorem nums_inL {s : Nat} (h1 : sizeOk (s : Int) = true) : ∀ (l bs cs : List Int), numsS (s : Int) l (some bs) = some cs → cs = bs ++ digsL s l ∧ ∀ x ∈ l, fits s x = true := by
  intro l
  induction l with
  | nil => intro bs cs h; rw [nums_nil2 s bs h1] at h; exact ⟨by rw [← Option.some.inj h]; exact (List.append_nil _).symm, fun x hx => by cases hx⟩
  | cons x r ih =>
    intro bs cs h
    by_cases hf : fits s x = true
    · rw [nums_app s x r bs h1 hf] at h
      obtain ⟨e1, e2⟩ := ih _ _ h
      exact ⟨by rw [e1, List.append_assoc]; rfl, fun y hy => by rcases List.mem_cons.1 hy with rfl | hy; exact hf; exact e2 y hy⟩
    · exfalso
      replace h : (if sizeOk (s : Int) then numsL (s : Int).toNat bs (x :: r) else none) = some cs := h
      rw [if_pos h1, Int.toNat_natCast] at h
      replace h : (if fits s x then numsL s (bs ++ digs x s) r else none) = some cs := h
      rw [if_neg hf] at h
      cases h
theorem digsL_len (s : Nat) : ∀ l, (digsL s l).length = s * l.length := by
  intro l
  induction l with
  | nil => rfl
  | cons x r ih => show (digs x s ++ digsL s r).length = _; rw [List.length_append, digs_length, ih, List.length_cons, Nat.mul_succ]; omega
theorem rdE_digs (n : Int) (t : List Int) : ∀ (l acc : List Int) (f : Nat), (∀ x ∈ l, fits 2 x = true) → ((acc.length + l.length : Nat) : Int) = n → (digsL 2 l ++ t).length ≤ f → rdE f n (some (digsL 2 l ++ t)) acc = (acc ++ l, some t) := by
  intro l
  induction l with
  | nil =>
    intro acc f _ hn _
    rw [rdE_stop (by simp only [List.length_nil] at hn; omega), List.append_nil]
    rfl
  | cons x r ih =>
    intro acc f hf hn hl
    have e : digsL 2 (x :: r) ++ t = digs x 2 ++ (digsL 2 r ++ t) := by show (digs x 2 ++ digsL 2 r) ++ t = _; rw [List.append_assoc]
    rw [e] at hl ⊢
    have hl2 : (digs x 2 ++ (digsL 2 r ++ t)).length = 2 + (digsL 2 r ++ t).length := by rw [List.length_append, digs_length]
    obtain ⟨g, rfl⟩ : ∃ g, f = g + 1 := ⟨f - 1, by omega⟩
    show (if _ then _ else _) = _
    rw [if_pos ⟨by simp only [List.length_cons] at hn; omega, by show 0 < (digs x 2 ++ (digsL 2 r ++ t)).length; omega⟩, show numR 2 (some (digs x 2 ++ (digsL 2 r ++ t))) = (x, some (digsL 2 r ++ t)) from numR_dig 2 ok2 x (hf x (by simp)) _]
    rw [ih (acc ++ [x]) g (fun y hy => hf y (by simp [hy])) (by rw [← hn]; simp; omega) (by omega), List.append_assoc]
    rfl
theorem rdEs_digs {l : List Int} (t : List Int) (hf : ∀ x ∈ l, fits 2 x = true) (hn : fits 2 (l.length : Int) = true) : rdEs (some (digs (l.length : Int) 2 ++ (digsL 2 l ++ t))) = (l, some t) := by
  have h1 : numR 2 (some (digs (l.length : Int) 2 ++ (digsL 2 l ++ t))) = ((l.length : Int), some (digsL 2 l ++ t)) := numR_dig 2 ok2 _ hn _
  unfold rdEs
  rw [h1]
  have h2 := rdE_digs (l.length : Int) t l [] ((some (digsL 2 l ++ t)).getD []).length hf (by simp) (Nat.le_refl _)
  rw [List.nil_append] at h2
  exact h2
theorem digs1_app {s : Nat} {x : Int} : digsL s [x] = digs x s := by show digs x s ++ [] = _; rw [List.append_nil]
theorem digs2_app {s : Nat} {x y : Int} : digsL s [x, y] = digs x s ++ digs y s := by show digs x s ++ (digs y s ++ []) = _; rw [List.append_nil]
theorem numsS_some {size : Int} {l : List Int} {s : Option (List Int)} {cs : List Int} (h : numsS size l s = some cs) : ∃ bs, s = some bs := by
  cases s with
  | none => cases h
  | some bs => exact ⟨bs, rfl⟩
theorem edge1_fits {x : Int} (h : fits 2 (edge1 x) = true) : edge1 x - 1 = x := by
  unfold edge1 at h ⊢
  split
  · rename_i hx; rw [if_pos hx] at h; exact absurd h (by decide)
  · omega
/-- What was written is read, whatever stands behind it. -/
theorem rd_bytes {m : MsD} {bs : List Int} (h : mBytes m = some bs) (t : List Int) : rdM (bs ++ t) = normM m ∧ rdMS (bs ++ t) = some t := by
  have key : ∀ (rest : List Int), fits 1 m.kind = true → bs = digs m.kind 1 ++ rest → rdK m.kind (some (rest ++ t)) = normM m ∧ rdKS m.kind (some (rest ++ t)) = some t → rdM (bs ++ t) = normM m ∧ rdMS (bs ++ t) = some t := by
    intro rest hf e hh
    have h1 : numR 1 (some (bs ++ t)) = (m.kind, some (rest ++ t)) := by rw [e, List.append_assoc]; exact numR_dig 1 ok1 _ hf _
    unfold rdM rdMS
    rw [h1]
    exact hh
  obtain ⟨kind, pos, dest, edges, weight, hc, he, hf, hl⟩ := m
  have k1 : ∀ {b1 : List Int}, numsS 1 [kind] (some []) = some b1 → b1 = digs kind 1 ∧ fits 1 kind = true := fun hh => by
    have := nums_in1 (s := 1) ok1 hh; exact ⟨by rw [this.1]; rfl, this.2⟩
  unfold mBytes at h
  simp only at h key
  split at h
  · rename_i hk
    obtain ⟨b1, e1⟩ := numsS_some h
    obtain ⟨rfl, f1⟩ := k1 e1
    rw [e1] at h
    obtain ⟨rfl, f2, f3⟩ := nums_in2 (s := 2) ok2 h
    refine key (digs pos 2 ++ digs dest 2) f1 (by rw [List.append_assoc]) ?_
    have a1 : numR 2 (some (digs pos 2 ++ digs dest 2 ++ t)) = (pos, some (digs dest 2 ++ t)) := by rw [List.append_assoc]; exact numR_dig 2 ok2 pos f2 _
    have a2 : numR 2 (some (digs dest 2 ++ t)) = (dest, some t) := numR_dig 2 ok2 dest f3 _
    unfold rdK rdKS normM
    simp only [if_pos hk, a1, a2]
    exact ⟨by rw [hk], trivial⟩
  · rename_i hk1
    split at h
    · rename_i hk
      obtain ⟨b1, e1⟩ := numsS_some h
      obtain ⟨rfl, f1⟩ := k1 e1
      rw [e1] at h
      obtain ⟨rfl, f2⟩ := nums_in1 (s := 2) ok2 h
      refine key (digs pos 2) f1 rfl ?_
      have a1 : numR 2 (some (digs pos 2 ++ t)) = (pos, some t) := numR_dig 2 ok2 pos f2 _
      unfold rdK rdKS normM
      simp only [if_neg hk1, if_pos hk, a1]
      exact ⟨trivial, trivial⟩
    · rename_i hk2
      split at h
      · rename_i hk
        split at h
        · cases h
        · obtain ⟨b4, e4⟩ := numsS_some h
          rw [e4] at h
          obtain ⟨b3, e3⟩ := numsS_some e4
          rw [e3] at e4
          obtain ⟨b1, e1⟩ := numsS_some e3
          obtain ⟨rfl, f1⟩ := k1 e1
          rw [e1] at e3
          obtain ⟨rfl, f3⟩ := nums_in1 (s := 5) ok5 e3
          obtain ⟨rfl, f4⟩ := nums_in1 (s := 2) ok2 e4
          obtain ⟨rfl, f5⟩ := nums_inL (s := 2) ok2 edges _ _ h
          refine key (digs weight 5 ++ (digs (edges.length : Int) 2 ++ digsL 2 edges)) f1 (by simp only [List.append_assoc]) ?_
          have a1 : numR 5 (some (digs weight 5 ++ (digs (edges.length : Int) 2 ++ digsL 2 edges) ++ t)) = (weight, some (digs (edges.length : Int) 2 ++ (digsL 2 edges ++ t))) := by rw [List.append_assoc, List.append_assoc]; exact numR_dig 5 ok5 weight f3 _
          have a2 := rdEs_digs t f5 f4
          unfold rdK rdKS normM
          simp only [if_neg hk1, if_neg hk2, if_pos hk, a1, a2]
          exact ⟨by rw [hk], trivial⟩
      · rename_i hk3
        split at h
        · rename_i hk
          obtain ⟨b4, e4⟩ := numsS_some h
          rw [e4] at h
          obtain ⟨b3, e3⟩ := numsS_some e4
          rw [e3] at e4
          obtain ⟨b1, e1⟩ := numsS_some e3
          obtain ⟨rfl, f1⟩ := k1 e1
          rw [e1] at e3
          obtain ⟨rfl, f3⟩ := nums_in1 (s := 1) ok1 e3
          obtain ⟨rfl, f4⟩ := nums_in1 (s := 2) ok2 e4
          obtain ⟨rfl, f5, f6⟩ := nums_in2 (s := 5) ok5 h
          refine key (digs hc 1 ++ (digs (edge1 he) 2 ++ (digs hf 5 ++ digs hl 5))) f1 (by simp only [List.append_assoc]) ?_
          have a1 : numR 1 (some (digs hc 1 ++ (digs (edge1 he) 2 ++ (digs hf 5 ++ digs hl 5)) ++ t)) = (hc, some (digs (edge1 he) 2 ++ (digs hf 5 ++ (digs hl 5 ++ t)))) := by simp only [List.append_assoc]; exact numR_dig 1 ok1 hc f3 _
          have a2 : numR 2 (some (digs (edge1 he) 2 ++ (digs hf 5 ++ (digs hl 5 ++ t)))) = (edge1 he, some (digs hf 5 ++ (digs hl 5 ++ t))) := numR_dig 2 ok2 _ f4 _
          have a3 : numR 5 (some (digs hf 5 ++ (digs hl 5 ++ t))) = (hf, some (digs hl 5 ++ t)) := numR_dig 5 ok5 _ f5 _
          have a4 : numR 5 (some (digs hl 5 ++ t)) = (hl, some t) := numR_dig 5 ok5 _ f6 _
          unfold rdK rdKS normM
          simp only [if_neg hk1, if_neg hk2, if_neg hk3, if_pos hk, a1, a2, a3, a4, edge1_fits f4]
          exact ⟨by rw [hk], trivial⟩
        · rename_i hk4
          split at h
          · obtain ⟨rfl, f1⟩ := k1 h
            refine key [] f1 (List.append_nil _).symm ?_
            unfold rdK rdKS normM
            simp only [if_neg hk1, if_neg hk2, if_neg hk3, if_neg hk4, List.nil_append]
            exact ⟨trivial, trivial⟩
          · cases h
theorem dec_encM {m : MsD} {bs : List Int} (h : mBytes m = some bs) : decM bs = (normM m, 0) := by
  have h1 := (rd_bytes h []).1
  rw [List.append_nil] at h1
  unfold decM
  rw [h1, mBytes_norm, if_pos h]
theorem no_prefix {m m2 : MsD} {bs t : List Int} (h : mBytes m = some bs) (h2 : mBytes m2 = some (bs ++ t)) : t = [] := by
  have h3 := (rd_bytes h t).2
  have h4 := (rd_bytes h2 []).2
  rw [List.append_nil, h3] at h4
  exact Option.some.inj h4
theorem dec_less {m : MsD} {bs : List Int} (h : mBytes m = some bs) {k : Nat} (hk : k < bs.length) : decM (bs.take k) = (zM, 2) := by
  unfold decM
  rw [if_neg]
  intro h2
  have h3 : mBytes m = some (bs.take k ++ bs.drop k) := by rw [List.take_append_drop]; exact h
  have := no_prefix h2 h3
  have hl := congrArg List.length this
  rw [List.length_drop, List.length_nil] at hl
  omega
theorem dec_more {m : MsD} {bs : List Int} (h : mBytes m = some bs) (x : Int) : decM (bs ++ [x]) = (zM, 2) := by
  unfold decM
  rw [if_neg]
  intro h2
  have := no_prefix h h2
  cases this
theorem mBytes_pos {m : MsD} {bs : List Int} (h : mBytes m = some bs) : 0 < bs.length := by
  have h1 := (rd_bytes h [])
  rcases Nat.eq_zero_or_pos bs.length with h0 | h0
  · exfalso
    have hb := List.eq_nil_of_length_eq_zero h0
    subst hb
    have hd : mBytes (rdM []) = some [] := by
      have := h1.1
      rw [List.append_nil] at this
      rw [this, mBytes_norm]; exact h
    exact absurd hd (by decide)
  · exact h0
end Go.Proofs.Ytabfmnlpipbegaa
