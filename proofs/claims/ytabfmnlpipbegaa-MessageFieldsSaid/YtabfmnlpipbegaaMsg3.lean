/- message.read by contract. -/
import Derived.Test.YtabfmnlpipbegaaMsg2
import Derived.Deep.DeepCutAuto
import Derived.Deep.CutBlock
namespace Go.Proofs.Ytabfmnlpipbegaa
open Go.RowKit Mile
set_option maxRecDepth 100000
def rdK (k : Int) (S : RS2) : MsD :=
  if k = 1 then ⟨k, (numR 2 S).1, (numR 2 (numR 2 S).2).1, [], 0, 0, 0, 0, 0⟩
  else if k = 2 ∨ k = 9 then ⟨k, (numR 2 S).1, 0, [], 0, 0, 0, 0, 0⟩
  else if k = 5 then ⟨k, 0, 0, (rdEs (numR 5 S).2).1, (numR 5 S).1, 0, 0, 0, 0⟩
  else if k = 7 then ⟨k, 0, 0, [], 0, (numR 1 S).1, (numR 2 (numR 1 S).2).1 - 1, (numR 5 (numR 2 (numR 1 S).2).2).1, (numR 5 (numR 5 (numR 2 (numR 1 S).2).2).2).1⟩
  else ⟨k, 0, 0, [], 0, 0, 0, 0, 0⟩
/-- What stands where Encode writes it. -/
def rdM (b : List Int) : MsD := rdK (numR 1 (some b)).1 (numR 1 (some b)).2
theorem numR2_bd {S : RS2} (h : ∀ x ∈ S.getD [], 0 ≤ x ∧ x < 256) : 0 ≤ (numR 2 S).1 ∧ (numR 2 S).1 ≤ 65535 := by
  unfold numR takeS
  rw [if_pos (by decide)]
  split
  · have hr : ∀ x ∈ (S.getD []).take (2 : Int).toNat, 0 ≤ x ∧ x < 256 := fun x hx => h x (List.mem_of_mem_take hx)
    have h1 := undigs_nonneg _ 0 (by omega) hr
    have h2 := undigs_bound _ 0 (by omega) hr
    refine ⟨h1, ?_⟩
    have hl : ((S.getD []).take (2 : Int).toNat).length = 2 := by rw [List.length_take]; omega
    rw [hl] at h2
    have e : (256 : Int) ^ 2 = 65536 := by decide
    rw [e] at h2
    simp only []
    omega
  · exact ⟨by show (0 : Int) ≤ undigs 0 []; decide, by show undigs 0 [] ≤ (65535 : Int); decide⟩
theorem Mod.set9 (w : World) (r : Nat) (v0 v1 v2 v3 v4 v5 v6 v7 v8 : Value) : Mod (fun k => k = r) w (((((((((w.setCell ⟨r, 0, none⟩ v0).setCell ⟨r, 1, none⟩ v1).setCell ⟨r, 2, none⟩ v2).setCell ⟨r, 3, none⟩ v3).setCell ⟨r, 4, none⟩ v4).setCell ⟨r, 5, none⟩ v5).setCell ⟨r, 6, none⟩ v6).setCell ⟨r, 7, none⟩ v7).setCell ⟨r, 8, none⟩ v8) := by
  have h : ∀ (w : World) i v, Mod (fun k => k = r) w (w.setCell ⟨r, i, none⟩ v) := fun w i v => Mod.setCell _ _ _ rfl
  have t : ∀ {a b c : World}, Mod (fun k => k = r) a b → Mod (fun k => k = r) b c → Mod (fun k => k = r) a c := fun x y => x.trans y (fun _ _ e => e) (fun _ _ e => e)
  exact t (t (t (t (t (t (t (t (h _ _ _) (h _ _ _)) (h _ _ _)) (h _ _ _)) (h _ _ _)) (h _ _ _)) (h _ _ _)) (h _ _ _)) (h _ _ _)
/-- What read tells. -/
def MReadP (b : List Int) (w : World) (e : Ending) (w' : World) : Prop :=
  ∃ a c, e = .returned (msgV (rdM b) a (rdM b).edges.length c) ∧ World.ownsRow w' w.heap.size 3 1 (.slice a (rdM b).edges.length c) (rdM b).edges.length ((rdM b).edges.map (Value.int .i64)) ∧ Mod (fun _ => False) w w'
set_option maxHeartbeats 16000000 in
theorem mread_any (w : World) (a : Option Addr) (n c : Nat) (b : List Int) (hn : b.length = n) (hr : Rd w 1 (.slice a n c) n (b.map (Value.int .u8))) (hb : ∀ x ∈ b, 0 ≤ x ∧ x < 256) (hnb : n ≤ 100000) :
    Calls Try.prog 28 #[.slice a n c] w (MReadP b w) := by
  have R0 : ∀ x ∈ (some b).getD [], 0 ≤ x ∧ x < 256 := hb
  obtain ⟨V1, S1, e1⟩ : ∃ V S, numR 1 (some b) = (V, S) := ⟨_, _, rfl⟩
  have R1 : ∀ x ∈ S1.getD [], 0 ≤ x ∧ x < 256 := fun x hx => R0 x (numR_sub (size := 1) x (by rw [e1]; exact hx))
  have L1 : (S1.getD []).length ≤ b.length := by have := @numR_len 1 (some b); rw [e1] at this; exact this
  have HP : Hid (rdM b = rdK V1 S1) := Lib.hid (by unfold rdM; rw [e1])
  have HN := Lib.hid hn
  have E1 := Lib.hid e1
  clear hn e1
  obtain ⟨r, hr0⟩ : ∃ b, w.heap.size = b := ⟨_, rfl⟩
  obtain ⟨w0, hw0⟩ : ∃ W, w.alloc (.cells #[.int .i64 0, .int .i64 0, .int .i64 0, .slice none 0 0, .int .i64 0, .int .i64 0, .int .i64 0, .int .i64 0, .int .i64 0] 26) = W := ⟨_, rfl⟩
  have hB : Blk w0 r 26 [.int .i64 0, .int .i64 0, .int .i64 0, .slice none 0 0, .int .i64 0, .int .i64 0, .int .i64 0, .int .i64 0, .int .i64 0] := by rw [← hw0, ← hr0]; exact Blk.new _ _ [.int .i64 0, .int .i64 0, .int .i64 0, .slice none 0 0, .int .i64 0, .int .i64 0, .int .i64 0, .int .i64 0, .int .i64 0]
  have hm0 : Mod (fun _ => False) w w0 := by rw [← hw0]; exact Mod.alloc _ _ _
  have hrd : Rd w0 1 (.slice a n c) b.length (b.map (Value.int .u8)) := by rw [HN.out]; exact hr.keep hm0 (fun _ _ e => e)
  have HB := Lib.hid hB
  have HM0 := Lib.hid hm0
  have HRD := Lib.hid hrd
  have hrw : w.heap.size ≤ r := by omega
  clear hB hm0 hrd hr hb
  go_enter Try.func28, Try.ntmps28
  go_upto_region 1 with fail
  try rw [hw0]
  try rw [hr0]
  clear hw0 hr0
  go_wp2_with fail
  refine (read_any w0 (.slice a n c) b HRD.out (by rw [HN.out]; omega)).mono ?_
  rintro e w1 ⟨p, F, rfl, hR, hlow, hM⟩
  have h1 := Lib.hid (show RdSt w0 w1 p (some b) F from ⟨hR, hlow, rdr_self hR, hM⟩)
  clear hR hlow hM
  go_wp2_with fail
  refine (num_any p _ (some b) F h1.out.r R0 1).mono ?_
  rw [E1.out]
  rintro e w2 ⟨rfl, hR, hM⟩
  have h2 := Lib.hid (h1.out.aft hR hM)
  clear h1 hR hM
  go_upto_region 3 with fail
  obtain ⟨gb, hgb⟩ : ∃ b, w2.heap.size = b := ⟨_, rfl⟩
  obtain ⟨w3, hw3⟩ : ∃ W, w2.alloc (.cells #[.int .i64 V1, .int .i64 0, .int .i64 0, .slice none 0 0, .int .i64 0, .int .i64 0, .int .i64 0, .int .i64 0, .int .i64 0] 26) = W := ⟨_, rfl⟩
  have h3 : RG w w3 26 r gb p S1 F [.int .i64 V1, .int .i64 0, .int .i64 0, .slice none 0 0, .int .i64 0, .int .i64 0, .int .i64 0, .int .i64 0, .int .i64 0] [.int .i64 0, .int .i64 0, .int .i64 0, .slice none 0 0, .int .i64 0, .int .i64 0, .int .i64 0, .int .i64 0, .int .i64 0] := by
    have hl2 := h2.out.r.lt
    have hlo := h2.out.low
    have hs := h2.out.mod.size
    have hrl := HB.out.lt
    have hz2 := HB.out.keep h2.out.mod (fun e => e)
    refine ⟨?_, ?_, ?_, h2.out.self, fun e => ?_, fun e => ?_, ?_, ?_, hrw, fun k hk => ?_, ?_⟩
    · rw [← hw3]; exact h2.out.r.keep (Mod.alloc (fun _ => False) _ _) (fun _ _ e => e)
    · rw [← hw3, ← hgb]; exact Blk.new _ _ [.int .i64 V1, .int .i64 0, .int .i64 0, .slice none 0 0, .int .i64 0, .int .i64 0, .int .i64 0, .int .i64 0, .int .i64 0]
    · rw [← hw3]; exact hz2.alloc _
    · have := hl2 _ e; omega
    · have := hlo _ e; omega
    · omega
    · have := HM0.out.size; omega
    · have := hlo _ hk; have := HM0.out.size; omega
    · rw [← hw3]; exact (HM0.out.of2 h2.out.mod).thenAlloc _
  have H3 := Lib.hid h3
  clear h3 h2 HB HM0 HRD
  rw [hw3, hgb]
  clear hw3 hgb
  have hbk := H3.out.g
  have q0 := hbk.cell 0 rfl
  have q1 := hbk.cell 1 rfl
  have q2 := hbk.cell 2 rfl
  have q3 := hbk.cell 3 rfl
  have q4 := hbk.cell 4 rfl
  have q5 := hbk.cell 5 rfl
  have q6 := hbk.cell 6 rfl
  have q7 := hbk.cell 7 rfl
  have q8 := hbk.cell 8 rfl
  have lq := hbk.lt
  clear hbk
  go_upto_region 4 with fail
  clear q0 q1 q2 q3 q4 q5 q6 q7 q8 lq
  by_cases k1 : V1 = 1
  case pos =>
    subst k1
    obtain ⟨V2, S2, e2⟩ : ∃ V S, numR 2 S1 = (V, S) := ⟨_, _, rfl⟩
    have R2 : ∀ x ∈ S2.getD [], 0 ≤ x ∧ x < 256 := fun x hx => R1 x (numR_sub (size := 2) x (by rw [e2]; exact hx))
    obtain ⟨V3, S3, e3⟩ : ∃ V S, numR 2 S2 = (V, S) := ⟨_, _, rfl⟩
    have R3 : ∀ x ∈ S3.getD [], 0 ≤ x ∧ x < 256 := fun x hx => R2 x (numR_sub (size := 2) x (by rw [e3]; exact hx))
    have PK : Hid (rdK 1 S1 = ⟨1, V2, V3, [], 0, 0, 0, 0, 0⟩) := Lib.hid (by unfold rdK; rw [if_pos rfl, e2]; simp only []; rw [e3])
    have E2 := Lib.hid e2
    have E3 := Lib.hid e3
    clear e2 e3
    go_wp2_with fail
    refine (num_any p _ S1 F H3.out.rd R1 2).mono ?_
    rw [E2.out]
    rintro e w4 ⟨rfl, hR, hM⟩
    have H4 := Lib.hid (H3.out.aft hR hM)
    clear hR hM
    go_wp2_with fail
    refine (num_any p _ S2 F H4.out.rd R2 2).mono ?_
    rw [E3.out]
    rintro e w5 ⟨rfl, hR, hM⟩
    have H5 := Lib.hid (H4.out.aft hR hM)
    clear hR hM
    have hbk := H5.out.g
    have q0 := hbk.cell 0 rfl
    have q1 := hbk.cell 1 rfl
    have q2 := hbk.cell 2 rfl
    have q3 := hbk.cell 3 rfl
    have q4 := hbk.cell 4 rfl
    have q5 := hbk.cell 5 rfl
    have q6 := hbk.cell 6 rfl
    have q7 := hbk.cell 7 rfl
    have q8 := hbk.cell 8 rfl
    have fq0 := hbk.free 0
    have fq1 := hbk.free 1
    have fq2 := hbk.free 2
    have fq3 := hbk.free 3
    have fq4 := hbk.free 4
    have fq5 := hbk.free 5
    have fq6 := hbk.free 6
    have fq7 := hbk.free 7
    have fq8 := hbk.free 8
    have lq := hbk.lt
    clear hbk
    go_upto_region 13 with fail
    obtain ⟨w6, hw⟩ : ∃ W, World.setCell (World.setCell (w5) ⟨gb, 1, none⟩ (.int .i64 V2)) ⟨gb, 2, none⟩ (.int .i64 V3) = W := ⟨_, rfl⟩
    rw [hw]
    clear q0 q1 q2 q3 q4 q5 q6 q7 q8 fq0 fq1 fq2 fq3 fq4 fq5 fq6 fq7 fq8 lq
    have H6 : Hid (RG w w6 26 r gb p _ F [.int .i64 1, .int .i64 V2, .int .i64 V3, .slice none 0 0, .int .i64 0, .int .i64 0, .int .i64 0, .int .i64 0, .int .i64 0] [.int .i64 0, .int .i64 0, .int .i64 0, .slice none 0 0, .int .i64 0, .int .i64 0, .int .i64 0, .int .i64 0, .int .i64 0]) := Lib.hid (by rw [← hw]; exact ((H5.out.set 1 (.int .i64 V2)).set 2 (.int .i64 V3)))
    have HMS : Hid (Mod (fun k => k = gb) w5 w6) := Lib.hid (by rw [← hw]; exact (((Mod.refl _ _).trans (show Mod (fun k => k = gb) _ _ from Mod.setCell _ _ _ rfl) (H := fun k => k = gb) (fun _ _ e => e) (fun _ _ e => e)).trans (show Mod (fun k => k = gb) _ _ from Mod.setCell _ _ _ rfl) (H := fun k => k = gb) (fun _ _ e => e) (fun _ _ e => e)))
    clear hw
    have hbk := H6.out.g
    have q0 := hbk.cell 0 rfl
    have q1 := hbk.cell 1 rfl
    have q2 := hbk.cell 2 rfl
    have q3 := hbk.cell 3 rfl
    have q4 := hbk.cell 4 rfl
    have q5 := hbk.cell 5 rfl
    have q6 := hbk.cell 6 rfl
    have q7 := hbk.cell 7 rfl
    have q8 := hbk.cell 8 rfl
    have lq := hbk.lt
    clear hbk
    have hbk := H6.out.z
    have z0 := hbk.cell 0 rfl
    have z1 := hbk.cell 1 rfl
    have z2 := hbk.cell 2 rfl
    have z3 := hbk.cell 3 rfl
    have z4 := hbk.cell 4 rfl
    have z5 := hbk.cell 5 rfl
    have z6 := hbk.cell 6 rfl
    have z7 := hbk.cell 7 rfl
    have z8 := hbk.cell 8 rfl
    have fz0 := hbk.free 0
    have fz1 := hbk.free 1
    have fz2 := hbk.free 2
    have fz3 := hbk.free 3
    have fz4 := hbk.free 4
    have fz5 := hbk.free 5
    have fz6 := hbk.free 6
    have fz7 := hbk.free 7
    have fz8 := hbk.free 8
    have lz := hbk.lt
    clear hbk
    have hgr := H6.out.gr
    go_wp2_with fail
    have b2 := (((((((((H6.out.setZ 0 (.int .i64 1)).setZ 1 (.int .i64 V2)).setZ 2 (.int .i64 V3)).setZ 3 (.slice none 0 0)).setZ 4 (.int .i64 0)).setZ 5 (.int .i64 0)).setZ 6 (.int .i64 0)).setZ 7 (.int .i64 0)).setZ 8 (.int .i64 0)).z
    (try simp only [Exit.inBlock, Exit.then])
    refine bodyPost_ret (results_cell_row rfl _ _ r 26 #[.int .i64 1, .int .i64 V2, .int .i64 V3, .slice none 0 0, .int .i64 0, .int .i64 0, .int .i64 0, .int .i64 0, .int .i64 0] (0, 0) _ rfl b2 Try.underlying26 rfl (by kernel_rfl)) rfl ?_
    refine ⟨none, 0, ?_, ?_, (((((((((H6.out.setZ 0 (.int .i64 1)).setZ 1 (.int .i64 V2)).setZ 2 (.int .i64 V3)).setZ 3 (.slice none 0 0)).setZ 4 (.int .i64 0)).setZ 5 (.int .i64 0)).setZ 6 (.int .i64 0)).setZ 7 (.int .i64 0)).setZ 8 (.int .i64 0)).mod⟩
    · rw [HP.out, PK.out]; rfl
    · rw [HP.out, PK.out]; exact World.ownsRow_nil _ _ _ _
  case neg =>
    by_cases k2 : V1 = 2
    case pos =>
      subst k2
      obtain ⟨V2, S2, e2⟩ : ∃ V S, numR 2 S1 = (V, S) := ⟨_, _, rfl⟩
      have R2 : ∀ x ∈ S2.getD [], 0 ≤ x ∧ x < 256 := fun x hx => R1 x (numR_sub (size := 2) x (by rw [e2]; exact hx))
      have PK : Hid (rdK 2 S1 = ⟨2, V2, 0, [], 0, 0, 0, 0, 0⟩) := Lib.hid (by unfold rdK; rw [if_neg (by decide), if_pos (by decide), e2])
      have E2 := Lib.hid e2
      clear e2
      go_wp2_with fail
      refine (num_any p _ S1 F H3.out.rd R1 2).mono ?_
      rw [E2.out]
      rintro e w4 ⟨rfl, hR, hM⟩
      have H4 := Lib.hid (H3.out.aft hR hM)
      clear hR hM
      have hbk := H4.out.g
      have q0 := hbk.cell 0 rfl
      have q1 := hbk.cell 1 rfl
      have q2 := hbk.cell 2 rfl
      have q3 := hbk.cell 3 rfl
      have q4 := hbk.cell 4 rfl
      have q5 := hbk.cell 5 rfl
      have q6 := hbk.cell 6 rfl
      have q7 := hbk.cell 7 rfl
      have q8 := hbk.cell 8 rfl
      have fq0 := hbk.free 0
      have fq1 := hbk.free 1
      have fq2 := hbk.free 2
      have fq3 := hbk.free 3
      have fq4 := hbk.free 4
      have fq5 := hbk.free 5
      have fq6 := hbk.free 6
      have fq7 := hbk.free 7
      have fq8 := hbk.free 8
      have lq := hbk.lt
      clear hbk
      go_upto_region 13 with fail
      obtain ⟨w5, hw⟩ : ∃ W, World.setCell (w4) ⟨gb, 1, none⟩ (.int .i64 V2) = W := ⟨_, rfl⟩
      rw [hw]
      clear q0 q1 q2 q3 q4 q5 q6 q7 q8 fq0 fq1 fq2 fq3 fq4 fq5 fq6 fq7 fq8 lq
      have H5 : Hid (RG w w5 26 r gb p _ F [.int .i64 2, .int .i64 V2, .int .i64 0, .slice none 0 0, .int .i64 0, .int .i64 0, .int .i64 0, .int .i64 0, .int .i64 0] [.int .i64 0, .int .i64 0, .int .i64 0, .slice none 0 0, .int .i64 0, .int .i64 0, .int .i64 0, .int .i64 0, .int .i64 0]) := Lib.hid (by rw [← hw]; exact (H4.out.set 1 (.int .i64 V2)))
      have HMS : Hid (Mod (fun k => k = gb) w4 w5) := Lib.hid (by rw [← hw]; exact ((Mod.refl _ _).trans (show Mod (fun k => k = gb) _ _ from Mod.setCell _ _ _ rfl) (H := fun k => k = gb) (fun _ _ e => e) (fun _ _ e => e)))
      clear hw
      have hbk := H5.out.g
      have q0 := hbk.cell 0 rfl
      have q1 := hbk.cell 1 rfl
      have q2 := hbk.cell 2 rfl
      have q3 := hbk.cell 3 rfl
      have q4 := hbk.cell 4 rfl
      have q5 := hbk.cell 5 rfl
      have q6 := hbk.cell 6 rfl
      have q7 := hbk.cell 7 rfl
      have q8 := hbk.cell 8 rfl
      have lq := hbk.lt
      clear hbk
      have hbk := H5.out.z
      have z0 := hbk.cell 0 rfl
      have z1 := hbk.cell 1 rfl
      have z2 := hbk.cell 2 rfl
      have z3 := hbk.cell 3 rfl
      have z4 := hbk.cell 4 rfl
      have z5 := hbk.cell 5 rfl
      have z6 := hbk.cell 6 rfl
      have z7 := hbk.cell 7 rfl
      have z8 := hbk.cell 8 rfl
      have fz0 := hbk.free 0
      have fz1 := hbk.free 1
      have fz2 := hbk.free 2
      have fz3 := hbk.free 3
      have fz4 := hbk.free 4
      have fz5 := hbk.free 5
      have fz6 := hbk.free 6
      have fz7 := hbk.free 7
      have fz8 := hbk.free 8
      have lz := hbk.lt
      clear hbk
      have hgr := H5.out.gr
      go_wp2_with fail
      have b2 := (((((((((H5.out.setZ 0 (.int .i64 2)).setZ 1 (.int .i64 V2)).setZ 2 (.int .i64 0)).setZ 3 (.slice none 0 0)).setZ 4 (.int .i64 0)).setZ 5 (.int .i64 0)).setZ 6 (.int .i64 0)).setZ 7 (.int .i64 0)).setZ 8 (.int .i64 0)).z
      (try simp only [Exit.inBlock, Exit.then])
      refine bodyPost_ret (results_cell_row rfl _ _ r 26 #[.int .i64 2, .int .i64 V2, .int .i64 0, .slice none 0 0, .int .i64 0, .int .i64 0, .int .i64 0, .int .i64 0, .int .i64 0] (0, 0) _ rfl b2 Try.underlying26 rfl (by kernel_rfl)) rfl ?_
      refine ⟨none, 0, ?_, ?_, (((((((((H5.out.setZ 0 (.int .i64 2)).setZ 1 (.int .i64 V2)).setZ 2 (.int .i64 0)).setZ 3 (.slice none 0 0)).setZ 4 (.int .i64 0)).setZ 5 (.int .i64 0)).setZ 6 (.int .i64 0)).setZ 7 (.int .i64 0)).setZ 8 (.int .i64 0)).mod⟩
      · rw [HP.out, PK.out]; rfl
      · rw [HP.out, PK.out]; exact World.ownsRow_nil _ _ _ _
    case neg =>
      by_cases k9 : V1 = 9
      case pos =>
        subst k9
        obtain ⟨V2, S2, e2⟩ : ∃ V S, numR 2 S1 = (V, S) := ⟨_, _, rfl⟩
        have R2 : ∀ x ∈ S2.getD [], 0 ≤ x ∧ x < 256 := fun x hx => R1 x (numR_sub (size := 2) x (by rw [e2]; exact hx))
        have PK : Hid (rdK 9 S1 = ⟨9, V2, 0, [], 0, 0, 0, 0, 0⟩) := Lib.hid (by unfold rdK; rw [if_neg (by decide), if_pos (by decide), e2])
        have E2 := Lib.hid e2
        clear e2
        go_wp2_with fail
        refine (num_any p _ S1 F H3.out.rd R1 2).mono ?_
        rw [E2.out]
        rintro e w4 ⟨rfl, hR, hM⟩
        have H4 := Lib.hid (H3.out.aft hR hM)
        clear hR hM
        have hbk := H4.out.g
        have q0 := hbk.cell 0 rfl
        have q1 := hbk.cell 1 rfl
        have q2 := hbk.cell 2 rfl
        have q3 := hbk.cell 3 rfl
        have q4 := hbk.cell 4 rfl
        have q5 := hbk.cell 5 rfl
        have q6 := hbk.cell 6 rfl
        have q7 := hbk.cell 7 rfl
        have q8 := hbk.cell 8 rfl
        have fq0 := hbk.free 0
        have fq1 := hbk.free 1
        have fq2 := hbk.free 2
        have fq3 := hbk.free 3
        have fq4 := hbk.free 4
        have fq5 := hbk.free 5
        have fq6 := hbk.free 6
        have fq7 := hbk.free 7
        have fq8 := hbk.free 8
        have lq := hbk.lt
        clear hbk
        go_upto_region 13 with fail
        obtain ⟨w5, hw⟩ : ∃ W, World.setCell (w4) ⟨gb, 1, none⟩ (.int .i64 V2) = W := ⟨_, rfl⟩
        rw [hw]
        clear q0 q1 q2 q3 q4 q5 q6 q7 q8 fq0 fq1 fq2 fq3 fq4 fq5 fq6 fq7 fq8 lq
        have H5 : Hid (RG w w5 26 r gb p _ F [.int .i64 9, .int .i64 V2, .int .i64 0, .slice none 0 0, .int .i64 0, .int .i64 0, .int .i64 0, .int .i64 0, .int .i64 0] [.int .i64 0, .int .i64 0, .int .i64 0, .slice none 0 0, .int .i64 0, .int .i64 0, .int .i64 0, .int .i64 0, .int .i64 0]) := Lib.hid (by rw [← hw]; exact (H4.out.set 1 (.int .i64 V2)))
        have HMS : Hid (Mod (fun k => k = gb) w4 w5) := Lib.hid (by rw [← hw]; exact ((Mod.refl _ _).trans (show Mod (fun k => k = gb) _ _ from Mod.setCell _ _ _ rfl) (H := fun k => k = gb) (fun _ _ e => e) (fun _ _ e => e)))
        clear hw
        have hbk := H5.out.g
        have q0 := hbk.cell 0 rfl
        have q1 := hbk.cell 1 rfl
        have q2 := hbk.cell 2 rfl
        have q3 := hbk.cell 3 rfl
        have q4 := hbk.cell 4 rfl
        have q5 := hbk.cell 5 rfl
        have q6 := hbk.cell 6 rfl
        have q7 := hbk.cell 7 rfl
        have q8 := hbk.cell 8 rfl
        have lq := hbk.lt
        clear hbk
        have hbk := H5.out.z
        have z0 := hbk.cell 0 rfl
        have z1 := hbk.cell 1 rfl
        have z2 := hbk.cell 2 rfl
        have z3 := hbk.cell 3 rfl
        have z4 := hbk.cell 4 rfl
        have z5 := hbk.cell 5 rfl
        have z6 := hbk.cell 6 rfl
        have z7 := hbk.cell 7 rfl
        have z8 := hbk.cell 8 rfl
        have fz0 := hbk.free 0
        have fz1 := hbk.free 1
        have fz2 := hbk.free 2
        have fz3 := hbk.free 3
        have fz4 := hbk.free 4
        have fz5 := hbk.free 5
        have fz6 := hbk.free 6
        have fz7 := hbk.free 7
        have fz8 := hbk.free 8
        have lz := hbk.lt
        clear hbk
        have hgr := H5.out.gr
        go_wp2_with fail
        have b2 := (((((((((H5.out.setZ 0 (.int .i64 9)).setZ 1 (.int .i64 V2)).setZ 2 (.int .i64 0)).setZ 3 (.slice none 0 0)).setZ 4 (.int .i64 0)).setZ 5 (.int .i64 0)).setZ 6 (.int .i64 0)).setZ 7 (.int .i64 0)).setZ 8 (.int .i64 0)).z
        (try simp only [Exit.inBlock, Exit.then])
        refine bodyPost_ret (results_cell_row rfl _ _ r 26 #[.int .i64 9, .int .i64 V2, .int .i64 0, .slice none 0 0, .int .i64 0, .int .i64 0, .int .i64 0, .int .i64 0, .int .i64 0] (0, 0) _ rfl b2 Try.underlying26 rfl (by kernel_rfl)) rfl ?_
        refine ⟨none, 0, ?_, ?_, (((((((((H5.out.setZ 0 (.int .i64 9)).setZ 1 (.int .i64 V2)).setZ 2 (.int .i64 0)).setZ 3 (.slice none 0 0)).setZ 4 (.int .i64 0)).setZ 5 (.int .i64 0)).setZ 6 (.int .i64 0)).setZ 7 (.int .i64 0)).setZ 8 (.int .i64 0)).mod⟩
        · rw [HP.out, PK.out]; rfl
        · rw [HP.out, PK.out]; exact World.ownsRow_nil _ _ _ _
      case neg =>
        by_cases k5 : V1 = 5
        case pos =>
          subst k5
          obtain ⟨V2, S2, e2⟩ : ∃ V S, numR 5 S1 = (V, S) := ⟨_, _, rfl⟩
          have R2 : ∀ x ∈ S2.getD [], 0 ≤ x ∧ x < 256 := fun x hx => R1 x (numR_sub (size := 5) x (by rw [e2]; exact hx))
          have L2 : (S2.getD []).length ≤ b.length := by have := @numR_len 5 S1; rw [e2] at this; exact Nat.le_trans this L1
          obtain ⟨el, S3, e3⟩ : ∃ V S, rdEs S2 = (V, S) := ⟨_, _, rfl⟩
          have PK : Hid (rdK 5 S1 = ⟨5, 0, 0, el, V2, 0, 0, 0, 0⟩) := Lib.hid (by unfold rdK; rw [if_neg (by decide), if_neg (by decide), if_pos rfl, e2]; simp only []; rw [e3])
          have E2 := Lib.hid e2
          have E3 := Lib.hid e3
          clear e2 e3
          go_wp2_with fail
          refine (num_any p _ S1 F H3.out.rd R1 5).mono ?_
          rw [E2.out]
          rintro e w4 ⟨rfl, hR, hM⟩
          have H4 := Lib.hid (H3.out.aft hR hM)
          clear hR hM
          go_wp2_with fail
          refine (redges_any _ p S2 F H4.out.rd R2 (by have := HN.out; omega)).mono ?_
          rintro e w8 hh
          unfold REdP at hh
          rw [E3.out] at hh
          obtain ⟨a8, c8, rfl, hF, hR, hM⟩ := hh
          have H8 := Lib.hid (H4.out.aft hR hM)
          obtain ⟨m8, hm8⟩ : ∃ x, el.length = x := ⟨_, rfl⟩
          have HM8 := Lib.hid hm8
          have hA8 : ∀ k, Value.ownBlock (.slice a8 el.length c8) = some k → k ≠ gb ∧ k ≠ r := fun k hk => by have h1 := (hF.lt k hk).1; have h2 := H4.out.g.lt; have h3 := H4.out.z.lt; omega
          have hF8 := Own.base hF (show w.heap.size ≤ w4.heap.size from H4.out.mod.size)
          have HA8 := Lib.hid hA8
          have HF8 := Lib.hid hF8
          clear hF hR hM hA8 hF8
          simp only []
          rw [hm8] at HA8 HF8 ⊢
          clear hm8
          have hbk := H8.out.g
          have q0 := hbk.cell 0 rfl
          have q1 := hbk.cell 1 rfl
          have q2 := hbk.cell 2 rfl
          have q3 := hbk.cell 3 rfl
          have q4 := hbk.cell 4 rfl
          have q5 := hbk.cell 5 rfl
          have q6 := hbk.cell 6 rfl
          have q7 := hbk.cell 7 rfl
          have q8 := hbk.cell 8 rfl
          have fq0 := hbk.free 0
          have fq1 := hbk.free 1
          have fq2 := hbk.free 2
          have fq3 := hbk.free 3
          have fq4 := hbk.free 4
          have fq5 := hbk.free 5
          have fq6 := hbk.free 6
          have fq7 := hbk.free 7
          have fq8 := hbk.free 8
          have lq := hbk.lt
          clear hbk
          go_upto_region 13 with fail
          obtain ⟨w9, hw⟩ : ∃ W, World.setCell (World.setCell (w8) ⟨gb, 4, none⟩ (.int .i64 V2)) ⟨gb, 3, none⟩ (.slice a8 m8 c8) = W := ⟨_, rfl⟩
          rw [hw]
          clear q0 q1 q2 q3 q4 q5 q6 q7 q8 fq0 fq1 fq2 fq3 fq4 fq5 fq6 fq7 fq8 lq
          have H9 : Hid (RG w w9 26 r gb p _ F [.int .i64 5, .int .i64 0, .int .i64 0, .slice a8 m8 c8, .int .i64 V2, .int .i64 0, .int .i64 0, .int .i64 0, .int .i64 0] [.int .i64 0, .int .i64 0, .int .i64 0, .slice none 0 0, .int .i64 0, .int .i64 0, .int .i64 0, .int .i64 0, .int .i64 0]) := Lib.hid (by rw [← hw]; exact ((H8.out.set 4 (.int .i64 V2)).set 3 (.slice a8 m8 c8)))
          have HMS : Hid (Mod (fun k => k = gb) w8 w9) := Lib.hid (by rw [← hw]; exact (((Mod.refl _ _).trans (show Mod (fun k => k = gb) _ _ from Mod.setCell _ _ _ rfl) (H := fun k => k = gb) (fun _ _ e => e) (fun _ _ e => e)).trans (show Mod (fun k => k = gb) _ _ from Mod.setCell _ _ _ rfl) (H := fun k => k = gb) (fun _ _ e => e) (fun _ _ e => e)))
          clear hw
          have hbk := H9.out.g
          have q0 := hbk.cell 0 rfl
          have q1 := hbk.cell 1 rfl
          have q2 := hbk.cell 2 rfl
          have q3 := hbk.cell 3 rfl
          have q4 := hbk.cell 4 rfl
          have q5 := hbk.cell 5 rfl
          have q6 := hbk.cell 6 rfl
          have q7 := hbk.cell 7 rfl
          have q8 := hbk.cell 8 rfl
          have lq := hbk.lt
          clear hbk
          have hbk := H9.out.z
          have z0 := hbk.cell 0 rfl
          have z1 := hbk.cell 1 rfl
          have z2 := hbk.cell 2 rfl
          have z3 := hbk.cell 3 rfl
          have z4 := hbk.cell 4 rfl
          have z5 := hbk.cell 5 rfl
          have z6 := hbk.cell 6 rfl
          have z7 := hbk.cell 7 rfl
          have z8 := hbk.cell 8 rfl
          have fz0 := hbk.free 0
          have fz1 := hbk.free 1
          have fz2 := hbk.free 2
          have fz3 := hbk.free 3
          have fz4 := hbk.free 4
          have fz5 := hbk.free 5
          have fz6 := hbk.free 6
          have fz7 := hbk.free 7
          have fz8 := hbk.free 8
          have lz := hbk.lt
          clear hbk
          have hgr := H9.out.gr
          go_wp2_with fail
          have b2 := (((((((((H9.out.setZ 0 (.int .i64 5)).setZ 1 (.int .i64 0)).setZ 2 (.int .i64 0)).setZ 3 (.slice a8 m8 c8)).setZ 4 (.int .i64 V2)).setZ 5 (.int .i64 0)).setZ 6 (.int .i64 0)).setZ 7 (.int .i64 0)).setZ 8 (.int .i64 0)).z
          (try simp only [Exit.inBlock, Exit.then])
          refine bodyPost_ret (results_cell_row rfl _ _ r 26 #[.int .i64 5, .int .i64 0, .int .i64 0, .slice a8 m8 c8, .int .i64 V2, .int .i64 0, .int .i64 0, .int .i64 0, .int .i64 0] (0, 0) _ rfl b2 Try.underlying26 rfl (by kernel_rfl)) rfl ?_
          have hm8 := HM8.out
          subst hm8
          have k1 := Own.keep HF8.out HMS.out (fun k hk e => (HA8.out k hk).1 e)
          have k2 := Own.keep k1 (Mod.set9 w9 r (.int .i64 5) (.int .i64 0) (.int .i64 0) (.slice a8 el.length c8) (.int .i64 V2) (.int .i64 0) (.int .i64 0) (.int .i64 0) (.int .i64 0)) (fun k hk e => (HA8.out k hk).2 e)
          have k3 := ((((((((((H9.out.setZ 0 (.int .i64 5)).setZ 1 (.int .i64 0)).setZ 2 (.int .i64 0)).setZ 3 (.slice a8 el.length c8)).setZ 4 (.int .i64 V2)).setZ 5 (.int .i64 0)).setZ 6 (.int .i64 0)).setZ 7 (.int .i64 0)).setZ 8 (.int .i64 0))).mod
          refine ⟨a8, c8, ?_, ?_, k3⟩
          · rw [HP.out, PK.out]; rfl
          · rw [HP.out, PK.out]; exact k2
        case neg =>
          by_cases k7 : V1 = 7
          case pos =>
            subst k7
            obtain ⟨V2, S2, e2⟩ : ∃ V S, numR 1 S1 = (V, S) := ⟨_, _, rfl⟩
            have R2 : ∀ x ∈ S2.getD [], 0 ≤ x ∧ x < 256 := fun x hx => R1 x (numR_sub (size := 1) x (by rw [e2]; exact hx))
            obtain ⟨V3, S3, e3⟩ : ∃ V S, numR 2 S2 = (V, S) := ⟨_, _, rfl⟩
            have R3 : ∀ x ∈ S3.getD [], 0 ≤ x ∧ x < 256 := fun x hx => R2 x (numR_sub (size := 2) x (by rw [e3]; exact hx))
            obtain ⟨V4, S4, e4⟩ : ∃ V S, numR 5 S3 = (V, S) := ⟨_, _, rfl⟩
            have R4 : ∀ x ∈ S4.getD [], 0 ≤ x ∧ x < 256 := fun x hx => R3 x (numR_sub (size := 5) x (by rw [e4]; exact hx))
            obtain ⟨V5, S5, e5⟩ : ∃ V S, numR 5 S4 = (V, S) := ⟨_, _, rfl⟩
            have R5 : ∀ x ∈ S5.getD [], 0 ≤ x ∧ x < 256 := fun x hx => R4 x (numR_sub (size := 5) x (by rw [e5]; exact hx))
            have B3 : 0 ≤ V3 ∧ V3 ≤ 65535 := by have := numR2_bd R2; rw [e3] at this; exact this
            have B31 := B3.1
            have B32 := B3.2
            clear B3
            have PK : Hid (rdK 7 S1 = ⟨7, 0, 0, [], 0, V2, V3 - 1, V4, V5⟩) := Lib.hid (by unfold rdK; rw [if_neg (by decide), if_neg (by decide), if_neg (by decide), if_pos rfl, e2]; simp only []; rw [e3]; simp only []; rw [e4]; simp only []; rw [e5])
            have E2 := Lib.hid e2
            have E3 := Lib.hid e3
            have E4 := Lib.hid e4
            have E5 := Lib.hid e5
            clear e2 e3 e4 e5
            go_wp2_with fail
            refine (num_any p _ S1 F H3.out.rd R1 1).mono ?_
            rw [E2.out]
            rintro e w4 ⟨rfl, hR, hM⟩
            have H4 := Lib.hid (H3.out.aft hR hM)
            clear hR hM
            go_wp2_with fail
            refine (num_any p _ S2 F H4.out.rd R2 2).mono ?_
            rw [E3.out]
            rintro e w5 ⟨rfl, hR, hM⟩
            have H5 := Lib.hid (H4.out.aft hR hM)
            clear hR hM
            go_wp2_with fail
            refine (num_any p _ S3 F H5.out.rd R3 5).mono ?_
            rw [E4.out]
            rintro e w6 ⟨rfl, hR, hM⟩
            have H6 := Lib.hid (H5.out.aft hR hM)
            clear hR hM
            go_wp2_with fail
            refine (num_any p _ S4 F H6.out.rd R4 5).mono ?_
            rw [E5.out]
            rintro e w7 ⟨rfl, hR, hM⟩
            have H7 := Lib.hid (H6.out.aft hR hM)
            clear hR hM
            have hbk := H7.out.g
            have q0 := hbk.cell 0 rfl
            have q1 := hbk.cell 1 rfl
            have q2 := hbk.cell 2 rfl
            have q3 := hbk.cell 3 rfl
            have q4 := hbk.cell 4 rfl
            have q5 := hbk.cell 5 rfl
            have q6 := hbk.cell 6 rfl
            have q7 := hbk.cell 7 rfl
            have q8 := hbk.cell 8 rfl
            have fq0 := hbk.free 0
            have fq1 := hbk.free 1
            have fq2 := hbk.free 2
            have fq3 := hbk.free 3
            have fq4 := hbk.free 4
            have fq5 := hbk.free 5
            have fq6 := hbk.free 6
            have fq7 := hbk.free 7
            have fq8 := hbk.free 8
            have lq := hbk.lt
            clear hbk
            go_upto_region 13 with fail
            obtain ⟨w8, hw⟩ : ∃ W, World.setCell (World.setCell (World.setCell (World.setCell (w7) ⟨gb, 5, none⟩ (.int .i64 V2)) ⟨gb, 6, none⟩ (.int .i64 (V3 - 1))) ⟨gb, 7, none⟩ (.int .i64 V4)) ⟨gb, 8, none⟩ (.int .i64 V5) = W := ⟨_, rfl⟩
            rw [hw]
            clear q0 q1 q2 q3 q4 q5 q6 q7 q8 fq0 fq1 fq2 fq3 fq4 fq5 fq6 fq7 fq8 lq
            have H8 : Hid (RG w w8 26 r gb p _ F [.int .i64 7, .int .i64 0, .int .i64 0, .slice none 0 0, .int .i64 0, .int .i64 V2, .int .i64 (V3 - 1), .int .i64 V4, .int .i64 V5] [.int .i64 0, .int .i64 0, .int .i64 0, .slice none 0 0, .int .i64 0, .int .i64 0, .int .i64 0, .int .i64 0, .int .i64 0]) := Lib.hid (by rw [← hw]; exact ((((H7.out.set 5 (.int .i64 V2)).set 6 (.int .i64 (V3 - 1))).set 7 (.int .i64 V4)).set 8 (.int .i64 V5)))
            have HMS : Hid (Mod (fun k => k = gb) w7 w8) := Lib.hid (by rw [← hw]; exact (((((Mod.refl _ _).trans (show Mod (fun k => k = gb) _ _ from Mod.setCell _ _ _ rfl) (H := fun k => k = gb) (fun _ _ e => e) (fun _ _ e => e)).trans (show Mod (fun k => k = gb) _ _ from Mod.setCell _ _ _ rfl) (H := fun k => k = gb) (fun _ _ e => e) (fun _ _ e => e)).trans (show Mod (fun k => k = gb) _ _ from Mod.setCell _ _ _ rfl) (H := fun k => k = gb) (fun _ _ e => e) (fun _ _ e => e)).trans (show Mod (fun k => k = gb) _ _ from Mod.setCell _ _ _ rfl) (H := fun k => k = gb) (fun _ _ e => e) (fun _ _ e => e)))
            clear hw
            have hbk := H8.out.g
            have q0 := hbk.cell 0 rfl
            have q1 := hbk.cell 1 rfl
            have q2 := hbk.cell 2 rfl
            have q3 := hbk.cell 3 rfl
            have q4 := hbk.cell 4 rfl
            have q5 := hbk.cell 5 rfl
            have q6 := hbk.cell 6 rfl
            have q7 := hbk.cell 7 rfl
            have q8 := hbk.cell 8 rfl
            have lq := hbk.lt
            clear hbk
            have hbk := H8.out.z
            have z0 := hbk.cell 0 rfl
            have z1 := hbk.cell 1 rfl
            have z2 := hbk.cell 2 rfl
            have z3 := hbk.cell 3 rfl
            have z4 := hbk.cell 4 rfl
            have z5 := hbk.cell 5 rfl
            have z6 := hbk.cell 6 rfl
            have z7 := hbk.cell 7 rfl
            have z8 := hbk.cell 8 rfl
            have fz0 := hbk.free 0
            have fz1 := hbk.free 1
            have fz2 := hbk.free 2
            have fz3 := hbk.free 3
            have fz4 := hbk.free 4
            have fz5 := hbk.free 5
            have fz6 := hbk.free 6
            have fz7 := hbk.free 7
            have fz8 := hbk.free 8
            have lz := hbk.lt
            clear hbk
            have hgr := H8.out.gr
            go_wp2_with fail
            have b2 := (((((((((H8.out.setZ 0 (.int .i64 7)).setZ 1 (.int .i64 0)).setZ 2 (.int .i64 0)).setZ 3 (.slice none 0 0)).setZ 4 (.int .i64 0)).setZ 5 (.int .i64 V2)).setZ 6 (.int .i64 (V3 - 1))).setZ 7 (.int .i64 V4)).setZ 8 (.int .i64 V5)).z
            (try simp only [Exit.inBlock, Exit.then])
            refine bodyPost_ret (results_cell_row rfl _ _ r 26 #[.int .i64 7, .int .i64 0, .int .i64 0, .slice none 0 0, .int .i64 0, .int .i64 V2, .int .i64 (V3 - 1), .int .i64 V4, .int .i64 V5] (0, 0) _ rfl b2 Try.underlying26 rfl (by kernel_rfl)) rfl ?_
            refine ⟨none, 0, ?_, ?_, (((((((((H8.out.setZ 0 (.int .i64 7)).setZ 1 (.int .i64 0)).setZ 2 (.int .i64 0)).setZ 3 (.slice none 0 0)).setZ 4 (.int .i64 0)).setZ 5 (.int .i64 V2)).setZ 6 (.int .i64 (V3 - 1))).setZ 7 (.int .i64 V4)).setZ 8 (.int .i64 V5)).mod⟩
            · rw [HP.out, PK.out]; rfl
            · rw [HP.out, PK.out]; exact World.ownsRow_nil _ _ _ _
          case neg =>
            have z1 : (V1 == 1) = false := beq_eq_false_iff_ne.2 k1
            have z2 : (V1 == 2) = false := beq_eq_false_iff_ne.2 k2
            have z9 : (V1 == 9) = false := beq_eq_false_iff_ne.2 k9
            have z5 : (V1 == 5) = false := beq_eq_false_iff_ne.2 k5
            have z7 : (V1 == 7) = false := beq_eq_false_iff_ne.2 k7
            have PK : Hid (rdK V1 S1 = ⟨V1, 0, 0, [], 0, 0, 0, 0, 0⟩) := Lib.hid (by unfold rdK; rw [if_neg k1, if_neg (fun h => h.elim k2 k9), if_neg k5, if_neg k7])
            clear k1 k2 k9 k5 k7
            have hbk := H3.out.g
            have q0 := hbk.cell 0 rfl
            have q1 := hbk.cell 1 rfl
            have q2 := hbk.cell 2 rfl
            have q3 := hbk.cell 3 rfl
            have q4 := hbk.cell 4 rfl
            have q5 := hbk.cell 5 rfl
            have q6 := hbk.cell 6 rfl
            have q7 := hbk.cell 7 rfl
            have q8 := hbk.cell 8 rfl
            have lq := hbk.lt
            clear hbk
            have hbk := H3.out.z
            have z0 := hbk.cell 0 rfl
            have z1 := hbk.cell 1 rfl
            have z2 := hbk.cell 2 rfl
            have z3 := hbk.cell 3 rfl
            have z4 := hbk.cell 4 rfl
            have z5 := hbk.cell 5 rfl
            have z6 := hbk.cell 6 rfl
            have z7 := hbk.cell 7 rfl
            have z8 := hbk.cell 8 rfl
            have fz0 := hbk.free 0
            have fz1 := hbk.free 1
            have fz2 := hbk.free 2
            have fz3 := hbk.free 3
            have fz4 := hbk.free 4
            have fz5 := hbk.free 5
            have fz6 := hbk.free 6
            have fz7 := hbk.free 7
            have fz8 := hbk.free 8
            have lz := hbk.lt
            clear hbk
            have hgr := H3.out.gr
            go_wp2_with fail
            have b2 := (((((((((H3.out.setZ 0 (.int .i64 V1)).setZ 1 (.int .i64 0)).setZ 2 (.int .i64 0)).setZ 3 (.slice none 0 0)).setZ 4 (.int .i64 0)).setZ 5 (.int .i64 0)).setZ 6 (.int .i64 0)).setZ 7 (.int .i64 0)).setZ 8 (.int .i64 0)).z
            (try simp only [Exit.inBlock, Exit.then])
            refine bodyPost_ret (results_cell_row rfl _ _ r 26 #[.int .i64 V1, .int .i64 0, .int .i64 0, .slice none 0 0, .int .i64 0, .int .i64 0, .int .i64 0, .int .i64 0, .int .i64 0] (0, 0) _ rfl b2 Try.underlying26 rfl (by kernel_rfl)) rfl ?_
            refine ⟨none, 0, ?_, ?_, (((((((((H3.out.setZ 0 (.int .i64 V1)).setZ 1 (.int .i64 0)).setZ 2 (.int .i64 0)).setZ 3 (.slice none 0 0)).setZ 4 (.int .i64 0)).setZ 5 (.int .i64 0)).setZ 6 (.int .i64 0)).setZ 7 (.int .i64 0)).setZ 8 (.int .i64 0)).mod⟩
            · rw [HP.out, PK.out]; rfl
            · rw [HP.out, PK.out]; exact World.ownsRow_nil _ _ _ _
end Go.Proofs.Ytabfmnlpipbegaa
