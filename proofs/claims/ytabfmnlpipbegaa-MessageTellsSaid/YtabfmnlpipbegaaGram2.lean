/- gram's read by contract. -/
import Derived.Test.YtabfmnlpipbegaaGram1
import Derived.Test.YtabfmnlpipbegaaFr2
import Derived.Test.YtabfmnlpipbegaaShp
import Derived.Deep.DeepCutAuto
import Derived.Deep.CutBlock
namespace Go.Proofs.Ytabfmnlpipbegaa
open Go.RowKit Mile
set_option maxRecDepth 100000
theorem RdSt.keep2 {w W W' : World} {p : Nat} {s : Option (List Int)} {F : Nat → Prop} (h : RdSt w W p s F) (hm : Mod (fun _ => False) W W') : RdSt w W' p s F := ⟨h.r.keep hm (fun _ _ e => e), h.low, h.self, h.mod.of2 hm⟩
/-- A reader, a struct variable at gb that is written, and one at r that is the answer's. -/
structure RG (w W : World) (T : TypeId) (r gb p : Nat) (s : Option (List Int)) (F : Nat → Prop) (cs zs : List Value) : Prop where
  rd : Rdr W p s F
  g : Blk W gb T cs
  z : Blk W r T zs
  self : F p
  gF : ¬ F gb
  rF : ¬ F r
  gr : gb ≠ r
  lg : w.heap.size ≤ gb
  lr : w.heap.size ≤ r
  lF : ∀ k, F k → w.heap.size ≤ k
  mod : Mod (fun _ => False) w W
theorem RG.aft {w W W' : World} {T : TypeId} {r gb p : Nat} {s s' : Option (List Int)} {F : Nat → Prop} {cs zs : List Value} (h : RG w W T r gb p s F cs zs) (hO : Rdr W' p s' F) (ha : Mod (fun k => k = p) W W') : RG w W' T r gb p s' F cs zs :=
  ⟨hO, h.g.keep ha (fun e => h.gF (by rw [e]; exact h.self)), h.z.keep ha (fun e => h.rF (by rw [e]; exact h.self)), h.self, h.gF, h.rF, h.gr, h.lg, h.lr, h.lF, h.mod.old ha (fun i hi => by rw [hi]; exact h.lF p h.self)⟩
theorem RG.set {w W : World} {T : TypeId} {r gb p : Nat} {s : Option (List Int)} {F : Nat → Prop} {cs zs : List Value} (h : RG w W T r gb p s F cs zs) (i : Nat) (v : Value) : RG w (W.setCell ⟨gb, i, none⟩ v) T r gb p s F (cs.set i v) zs :=
  have hm : Mod (fun k => k = gb) W (W.setCell ⟨gb, i, none⟩ v) := Mod.setCell _ _ _ rfl
  ⟨h.rd.keep hm (fun k hk e => h.gF (by rw [← e]; exact hk)), h.g.set i v, h.z.keep hm (fun e => h.gr e.symm), h.self, h.gF, h.rF, h.gr, h.lg, h.lr, h.lF, h.mod.old hm (fun i hi => by rw [hi]; exact h.lg)⟩
theorem RG.setZ {w W : World} {T : TypeId} {r gb p : Nat} {s : Option (List Int)} {F : Nat → Prop} {cs zs : List Value} (h : RG w W T r gb p s F cs zs) (i : Nat) (v : Value) : RG w (W.setCell ⟨r, i, none⟩ v) T r gb p s F cs (zs.set i v) :=
  have hm : Mod (fun k => k = r) W (W.setCell ⟨r, i, none⟩ v) := Mod.setCell _ _ _ rfl
  ⟨h.rd.keep hm (fun k hk e => h.rF (by rw [← e]; exact hk)), h.g.keep hm (fun e => h.gr e), h.z.set i v, h.self, h.gF, h.rF, h.gr, h.lg, h.lr, h.lF, h.mod.old hm (fun i hi => by rw [hi]; exact h.lr)⟩
theorem Mod.set6 (w : World) (r : Nat) (v0 v1 v2 v3 v4 v5 : Value) : Mod (fun k => k = r) w ((((((w.setCell ⟨r, 0, none⟩ v0).setCell ⟨r, 1, none⟩ v1).setCell ⟨r, 2, none⟩ v2).setCell ⟨r, 3, none⟩ v3).setCell ⟨r, 4, none⟩ v4).setCell ⟨r, 5, none⟩ v5) := by
  have h : ∀ (w : World) i v, Mod (fun k => k = r) w (w.setCell ⟨r, i, none⟩ v) := fun w i v => Mod.setCell _ _ _ rfl
  have t : ∀ {a b c : World}, Mod (fun k => k = r) a b → Mod (fun k => k = r) b c → Mod (fun k => k = r) a c := fun x y => x.trans y (fun _ _ e => e) (fun _ _ e => e)
  exact t (t (t (t (t (h _ _ _) (h _ _ _)) (h _ _ _)) (h _ _ _)) (h _ _ _)) (h _ _ _)
/-- What read tells. -/
def GReadP (kind : Int) (b : List Int) (w : World) (e : Ending) (w' : World) : Prop :=
  ∃ a c, e = .returned (gramV (pG2 kind b) a (pG2 kind b).body.length c) ∧ Fresh w' w.heap.size (.slice a (pG2 kind b).body.length c) (pG2 kind b).body ∧ Mod (fun _ => False) w w'
set_option maxHeartbeats 16000000 in
theorem gread_any (w : World) (kind : Int) (a : Option Addr) (n c : Nat) (b : List Int) (hn : b.length = n) (hr : Rd w 1 (.slice a n c) n (b.map (Value.int .u8))) (hb : ∀ x ∈ b, 0 ≤ x ∧ x < 256) (hnb : n ≤ 100000) :
    Calls Try.prog 37 #[.int .i64 kind, .slice a n c] w (GReadP kind b w) := by
  obtain ⟨V1, S1, e1⟩ : ∃ V S, numR 4 (some b) = (V, S) := ⟨_, _, rfl⟩
  have R0 : ∀ x ∈ (some b).getD [], 0 ≤ x ∧ x < 256 := hb
  have R1 : ∀ x ∈ S1.getD [], 0 ≤ x ∧ x < 256 := fun x hx => R0 x (numR_sub (size := 4) x (by rw [e1]; exact hx))
  have L1 : (S1.getD []).length ≤ b.length := by have := @numR_len 4 (some b); rw [e1] at this; exact this
  obtain ⟨V2, S2, e2⟩ : ∃ V S, numR 4 S1 = (V, S) := ⟨_, _, rfl⟩
  have R2 : ∀ x ∈ S2.getD [], 0 ≤ x ∧ x < 256 := fun x hx => R1 x (numR_sub (size := 4) x (by rw [e2]; exact hx))
  have L2 : (S2.getD []).length ≤ b.length := by have := @numR_len 4 S1; rw [e2] at this; exact Nat.le_trans this L1
  obtain ⟨V3, S3, e3⟩ : ∃ V S, numR 4 S2 = (V, S) := ⟨_, _, rfl⟩
  have L3 : (S3.getD []).length ≤ b.length := by have := @numR_len 4 S2; rw [e3] at this; exact Nat.le_trans this L2
  obtain ⟨V4, S4, e4⟩ : ∃ V S, numR 1 S1 = (V, S) := ⟨_, _, rfl⟩
  have d1 : rS1 b = S1 := by unfold rS1; rw [e1]
  have d2 : rS2 b = S2 := by unfold rS2; rw [d1, e2]
  have d3 : rS3 b = S3 := by unfold rS3; rw [d2, e3]
  have P1 : Hid (pG2 1 b = ⟨V1, 1, V2, V3, 0, (takeS ((S3.getD []).length : Int) S3).1⟩) := Lib.hid (by unfold pG2; rw [if_pos rfl, d3, e1, d1, e2, d2, e3])
  have P2 : Hid (pG2 2 b = ⟨V1, 2, 0, V2, 0, []⟩) := Lib.hid (by unfold pG2; rw [if_neg (by decide), if_pos rfl, e1, d1, e2])
  have P3 : Hid (pG2 3 b = ⟨V1, 3, 0, 0, V4, []⟩) := Lib.hid (by unfold pG2; rw [if_neg (by decide), if_neg (by decide), if_pos rfl, e1, d1, e4])
  have P0 : Hid (∀ k : Int, k ≠ 1 → k ≠ 2 → k ≠ 3 → pG2 k b = ⟨V1, k, 0, 0, 0, []⟩) := Lib.hid (by intro k h1 h2 h3; unfold pG2; rw [if_neg h1, if_neg h2, if_neg h3, e1])
  have HN := Lib.hid hn
  have E1 := Lib.hid e1
  have E2 := Lib.hid e2
  have E3 := Lib.hid e3
  have E4 := Lib.hid e4
  clear hn e1 e2 e3 e4 d1 d2 d3
  obtain ⟨r, hr0⟩ : ∃ b, w.heap.size = b := ⟨_, rfl⟩
  obtain ⟨w0, hw0⟩ : ∃ W, w.alloc (.cells #[.int .i64 0, .int .i64 0, .int .i64 0, .int .i64 0, .int .i64 0, .slice none 0 0] 44) = W := ⟨_, rfl⟩
  have hB : Blk w0 r 44 [.int .i64 0, .int .i64 0, .int .i64 0, .int .i64 0, .int .i64 0, .slice none 0 0] := by rw [← hw0, ← hr0]; exact Blk.new _ _ [.int .i64 0, .int .i64 0, .int .i64 0, .int .i64 0, .int .i64 0, .slice none 0 0]
  have hm0 : Mod (fun _ => False) w w0 := by rw [← hw0]; exact Mod.alloc _ _ _
  have hrd : Rd w0 1 (.slice a n c) b.length (b.map (Value.int .u8)) := by rw [HN.out]; exact hr.keep hm0 (fun _ _ e => e)
  have HB := Lib.hid hB
  have HM0 := Lib.hid hm0
  have HRD := Lib.hid hrd
  have hrw : w.heap.size ≤ r := by omega
  clear hB hm0 hrd hr hb
  go_enter Try.func37, Try.ntmps37
  go_upto_region 1 with fail
  try rw [hw0]
  try rw [hr0]
  clear hw0 hr0
  go_wp2_with fail
  refine (read_any w0 (.slice a n c) b HRD.out (by rw [HN.out]; omega)).mono ?_
  rintro e w1 ⟨p, F, rfl, hR, hlow, hM⟩
  have h1 := Lib.hid (show RdSt w0 w1 p (some b) F from ⟨hR, hlow, rdr_self hR, hM⟩)
  clear hR hlow hM
  go_wp2_with fail
  refine (num_any p _ (some b) F h1.out.r R0 4).mono ?_
  rw [E1.out]
  rintro e w2 ⟨rfl, hR, hM⟩
  have h2 := Lib.hid (h1.out.aft hR hM)
  clear h1 hR hM
  go_upto_region 3 with fail
  obtain ⟨gb, hgb⟩ : ∃ b, w2.heap.size = b := ⟨_, rfl⟩
  obtain ⟨w3, hw3⟩ : ∃ W, w2.alloc (.cells #[.int .i64 V1, .int .i64 kind, .int .i64 0, .int .i64 0, .int .i64 0, .slice none 0 0] 44) = W := ⟨_, rfl⟩
  have h3 : RG w w3 44 r gb p S1 F [.int .i64 V1, .int .i64 kind, .int .i64 0, .int .i64 0, .int .i64 0, .slice none 0 0] [.int .i64 0, .int .i64 0, .int .i64 0, .int .i64 0, .int .i64 0, .slice none 0 0] := by
    have hl2 := h2.out.r.lt
    have hlo := h2.out.low
    have hs := h2.out.mod.size
    have hrl := HB.out.lt
    have hz2 := HB.out.keep h2.out.mod (fun e => e)
    refine ⟨?_, ?_, ?_, h2.out.self, fun e => ?_, fun e => ?_, ?_, ?_, hrw, fun k hk => ?_, ?_⟩
    · rw [← hw3]; exact h2.out.r.keep (Mod.alloc (fun _ => False) _ _) (fun _ _ e => e)
    · rw [← hw3, ← hgb]; exact Blk.new _ _ [.int .i64 V1, .int .i64 kind, .int .i64 0, .int .i64 0, .int .i64 0, .slice none 0 0]
    · rw [← hw3]; exact hz2.alloc _
    · have := hl2 _ e; omega
    · have := hlo _ e; omega
    · omega
    · have := HM0.out.size; omega
    · have := hlo _ hk; have := HM0.out.size; omega
    · rw [← hw3]; exact (HM0.out.of2 h2.out.mod).thenAlloc _
  have H3 := Lib.hid h3
  clear h3 h2 HB HM0 HRD
  rw [hw3, hgb]
  clear hw3 hgb
  by_cases k2 : kind = 2
  case pos =>
    subst k2
    go_wp2_with fail
    refine (num_any p _ S1 F H3.out.rd R1 4).mono ?_
    rw [E2.out]
    rintro e w4 ⟨rfl, hR, hM⟩
    have H4 := Lib.hid (H3.out.aft hR hM)
    clear hR hM
    have hbk := H4.out.g
    have q0 := hbk.cell 0 rfl
    have q1 := hbk.cell 1 rfl
    have q2 := hbk.cell 2 rfl
    have q3 := hbk.cell 3 rfl
    have q4 := hbk.cell 4 rfl
    have q5 := hbk.cell 5 rfl
    have fq0 := hbk.free 0
    have fq1 := hbk.free 1
    have fq2 := hbk.free 2
    have fq3 := hbk.free 3
    have fq4 := hbk.free 4
    have fq5 := hbk.free 5
    have lq := hbk.lt
    clear hbk
    go_upto_region 11 with fail
    obtain ⟨w5, hw⟩ : ∃ W, World.setCell (w4) ⟨gb, 3, none⟩ (.int .i64 V2) = W := ⟨_, rfl⟩
    rw [hw]
    clear q0 q1 q2 q3 q4 q5 fq0 fq1 fq2 fq3 fq4 fq5 lq
    have H5 : Hid (RG w w5 44 r gb p _ F [.int .i64 V1, .int .i64 2, .int .i64 0, .int .i64 V2, .int .i64 0, .slice none 0 0] [.int .i64 0, .int .i64 0, .int .i64 0, .int .i64 0, .int .i64 0, .slice none 0 0]) := Lib.hid (by rw [← hw]; exact (H4.out.set 3 (.int .i64 V2)))
    have HMS : Hid (Mod (fun k => k = gb) w4 w5) := Lib.hid (by rw [← hw]; exact Mod.setCell _ _ _ rfl)
    clear hw
    have hbk := H5.out.g
    have q0 := hbk.cell 0 rfl
    have q1 := hbk.cell 1 rfl
    have q2 := hbk.cell 2 rfl
    have q3 := hbk.cell 3 rfl
    have q4 := hbk.cell 4 rfl
    have q5 := hbk.cell 5 rfl
    have lq := hbk.lt
    clear hbk
    have hbk := H5.out.z
    have z0 := hbk.cell 0 rfl
    have z1 := hbk.cell 1 rfl
    have z2 := hbk.cell 2 rfl
    have z3 := hbk.cell 3 rfl
    have z4 := hbk.cell 4 rfl
    have z5 := hbk.cell 5 rfl
    have fz0 := hbk.free 0
    have fz1 := hbk.free 1
    have fz2 := hbk.free 2
    have fz3 := hbk.free 3
    have fz4 := hbk.free 4
    have fz5 := hbk.free 5
    have lz := hbk.lt
    clear hbk
    have hgr := H5.out.gr
    go_wp2_with fail
    have b2 := ((((((H5.out.setZ 0 (.int .i64 V1)).setZ 1 (.int .i64 2)).setZ 2 (.int .i64 0)).setZ 3 (.int .i64 V2)).setZ 4 (.int .i64 0)).setZ 5 (.slice none 0 0)).z
    (try simp only [Exit.inBlock, Exit.then])
    refine bodyPost_ret (results_cell_row rfl _ _ r 44 #[.int .i64 V1, .int .i64 2, .int .i64 0, .int .i64 V2, .int .i64 0, .slice none 0 0] (0, 0) _ rfl b2 Try.underlying44 rfl (by kernel_rfl)) rfl ?_
    refine ⟨none, 0, ?_, ?_, ((((((H5.out.setZ 0 (.int .i64 V1)).setZ 1 (.int .i64 2)).setZ 2 (.int .i64 0)).setZ 3 (.int .i64 V2)).setZ 4 (.int .i64 0)).setZ 5 (.slice none 0 0)).mod⟩
    · rw [P2.out]; rfl
    · rw [P2.out]; exact World.ownsRow_nil _ _ _ _
  case neg =>
    by_cases k3 : kind = 3
    case pos =>
      subst k3
      go_wp2_with fail
      refine (num_any p _ S1 F H3.out.rd R1 1).mono ?_
      rw [E4.out]
      rintro e w4 ⟨rfl, hR, hM⟩
      have H4 := Lib.hid (H3.out.aft hR hM)
      clear hR hM
      have hbk := H4.out.g
      have q0 := hbk.cell 0 rfl
      have q1 := hbk.cell 1 rfl
      have q2 := hbk.cell 2 rfl
      have q3 := hbk.cell 3 rfl
      have q4 := hbk.cell 4 rfl
      have q5 := hbk.cell 5 rfl
      have fq0 := hbk.free 0
      have fq1 := hbk.free 1
      have fq2 := hbk.free 2
      have fq3 := hbk.free 3
      have fq4 := hbk.free 4
      have fq5 := hbk.free 5
      have lq := hbk.lt
      clear hbk
      go_upto_region 11 with fail
      obtain ⟨w5, hw⟩ : ∃ W, World.setCell (w4) ⟨gb, 4, none⟩ (.int .i64 V4) = W := ⟨_, rfl⟩
      rw [hw]
      clear q0 q1 q2 q3 q4 q5 fq0 fq1 fq2 fq3 fq4 fq5 lq
      have H5 : Hid (RG w w5 44 r gb p _ F [.int .i64 V1, .int .i64 3, .int .i64 0, .int .i64 0, .int .i64 V4, .slice none 0 0] [.int .i64 0, .int .i64 0, .int .i64 0, .int .i64 0, .int .i64 0, .slice none 0 0]) := Lib.hid (by rw [← hw]; exact (H4.out.set 4 (.int .i64 V4)))
      have HMS : Hid (Mod (fun k => k = gb) w4 w5) := Lib.hid (by rw [← hw]; exact Mod.setCell _ _ _ rfl)
      clear hw
      have hbk := H5.out.g
      have q0 := hbk.cell 0 rfl
      have q1 := hbk.cell 1 rfl
      have q2 := hbk.cell 2 rfl
      have q3 := hbk.cell 3 rfl
      have q4 := hbk.cell 4 rfl
      have q5 := hbk.cell 5 rfl
      have lq := hbk.lt
      clear hbk
      have hbk := H5.out.z
      have z0 := hbk.cell 0 rfl
      have z1 := hbk.cell 1 rfl
      have z2 := hbk.cell 2 rfl
      have z3 := hbk.cell 3 rfl
      have z4 := hbk.cell 4 rfl
      have z5 := hbk.cell 5 rfl
      have fz0 := hbk.free 0
      have fz1 := hbk.free 1
      have fz2 := hbk.free 2
      have fz3 := hbk.free 3
      have fz4 := hbk.free 4
      have fz5 := hbk.free 5
      have lz := hbk.lt
      clear hbk
      have hgr := H5.out.gr
      go_wp2_with fail
      have b2 := ((((((H5.out.setZ 0 (.int .i64 V1)).setZ 1 (.int .i64 3)).setZ 2 (.int .i64 0)).setZ 3 (.int .i64 0)).setZ 4 (.int .i64 V4)).setZ 5 (.slice none 0 0)).z
      (try simp only [Exit.inBlock, Exit.then])
      refine bodyPost_ret (results_cell_row rfl _ _ r 44 #[.int .i64 V1, .int .i64 3, .int .i64 0, .int .i64 0, .int .i64 V4, .slice none 0 0] (0, 0) _ rfl b2 Try.underlying44 rfl (by kernel_rfl)) rfl ?_
      refine ⟨none, 0, ?_, ?_, ((((((H5.out.setZ 0 (.int .i64 V1)).setZ 1 (.int .i64 3)).setZ 2 (.int .i64 0)).setZ 3 (.int .i64 0)).setZ 4 (.int .i64 V4)).setZ 5 (.slice none 0 0)).mod⟩
      · rw [P3.out]; rfl
      · rw [P3.out]; exact World.ownsRow_nil _ _ _ _
    case neg =>
      by_cases k1 : kind = 1
      case pos =>
        subst k1
        go_wp2_with fail
        refine (num_any p _ S1 F H3.out.rd R1 4).mono ?_
        rw [E2.out]
        rintro e w4 ⟨rfl, hR, hM⟩
        have H4 := Lib.hid (H3.out.aft hR hM)
        clear hR hM
        go_wp2_with fail
        refine (num_any p _ S2 F H4.out.rd R2 4).mono ?_
        rw [E3.out]
        rintro e w5 ⟨rfl, hR, hM⟩
        have H5 := Lib.hid (H4.out.aft hR hM)
        clear hR hM
        have hbk := H5.out.g
        have q0 := hbk.cell 0 rfl
        have q1 := hbk.cell 1 rfl
        have q2 := hbk.cell 2 rfl
        have q3 := hbk.cell 3 rfl
        have q4 := hbk.cell 4 rfl
        have q5 := hbk.cell 5 rfl
        have fq0 := hbk.free 0
        have fq1 := hbk.free 1
        have fq2 := hbk.free 2
        have fq3 := hbk.free 3
        have fq4 := hbk.free 4
        have fq5 := hbk.free 5
        have lq := hbk.lt
        clear hbk
        go_upto_region 6 with fail
        obtain ⟨w6, hw⟩ : ∃ W, World.setCell (World.setCell (w5) ⟨gb, 2, none⟩ (.int .i64 V2)) ⟨gb, 3, none⟩ (.int .i64 V3) = W := ⟨_, rfl⟩
        rw [hw]
        clear q0 q1 q2 q3 q4 q5 fq0 fq1 fq2 fq3 fq4 fq5 lq
        have H6 : Hid (RG w w6 44 r gb p _ F [.int .i64 V1, .int .i64 1, .int .i64 V2, .int .i64 V3, .int .i64 0, .slice none 0 0] [.int .i64 0, .int .i64 0, .int .i64 0, .int .i64 0, .int .i64 0, .slice none 0 0]) := Lib.hid (by rw [← hw]; exact ((H5.out.set 2 (.int .i64 V2)).set 3 (.int .i64 V3)))
        clear hw
        go_wp2_with fail
        refine (left_any p _ S3 F H6.out.rd).mono ?_
        rintro e w7 ⟨rfl, rfl⟩
        go_wp2_with fail
        refine (rraw_any p _ S3 F H6.out.rd ((S3.getD []).length : Int) (by have := HN.out; omega)).mono ?_
        rintro e w8 ⟨v8, rfl, hF, hR, hM⟩
        have H8 := Lib.hid (H6.out.aft hR hM)
        obtain ⟨a8, c8, rfl⟩ := own_form hF
        obtain ⟨bd, hbd⟩ : ∃ x, (takeS ((S3.getD []).length : Int) S3).1 = x := ⟨_, rfl⟩
        rw [hbd] at hF ⊢
        have HBY := Lib.hid hbd
        obtain ⟨m8, hm8⟩ : ∃ x, bd.length = x := ⟨_, rfl⟩
        have HM8 := Lib.hid hm8
        have hA8 : ∀ k, Value.ownBlock (.slice a8 bd.length c8) = some k → k ≠ gb ∧ k ≠ r := fun k hk => by have h1 := (hF.lt k hk).1; have h2 := H6.out.g.lt; have h3 := H6.out.z.lt; omega
        have hF8 := Own.base hF (show w.heap.size ≤ w6.heap.size from H6.out.mod.size)
        have HA8 := Lib.hid hA8
        have HF8 := Lib.hid hF8
        clear hF hR hM hbd hA8 hF8
        rw [hm8] at HA8 HF8 ⊢
        clear hm8
        have hbk := H8.out.g
        have q0 := hbk.cell 0 rfl
        have q1 := hbk.cell 1 rfl
        have q2 := hbk.cell 2 rfl
        have q3 := hbk.cell 3 rfl
        have q4 := hbk.cell 4 rfl
        have q5 := hbk.cell 5 rfl
        have fq0 := hbk.free 0
        have fq1 := hbk.free 1
        have fq2 := hbk.free 2
        have fq3 := hbk.free 3
        have fq4 := hbk.free 4
        have fq5 := hbk.free 5
        have lq := hbk.lt
        clear hbk
        go_upto_region 11 with fail
        obtain ⟨w9, hw⟩ : ∃ W, World.setCell (w8) ⟨gb, 5, none⟩ (.slice a8 m8 c8) = W := ⟨_, rfl⟩
        rw [hw]
        clear q0 q1 q2 q3 q4 q5 fq0 fq1 fq2 fq3 fq4 fq5 lq
        have H9 : Hid (RG w w9 44 r gb p _ F [.int .i64 V1, .int .i64 1, .int .i64 V2, .int .i64 V3, .int .i64 0, .slice a8 m8 c8] [.int .i64 0, .int .i64 0, .int .i64 0, .int .i64 0, .int .i64 0, .slice none 0 0]) := Lib.hid (by rw [← hw]; exact (H8.out.set 5 (.slice a8 m8 c8)))
        have HMS : Hid (Mod (fun k => k = gb) w8 w9) := Lib.hid (by rw [← hw]; exact Mod.setCell _ _ _ rfl)
        clear hw
        have hbk := H9.out.g
        have q0 := hbk.cell 0 rfl
        have q1 := hbk.cell 1 rfl
        have q2 := hbk.cell 2 rfl
        have q3 := hbk.cell 3 rfl
        have q4 := hbk.cell 4 rfl
        have q5 := hbk.cell 5 rfl
        have lq := hbk.lt
        clear hbk
        have hbk := H9.out.z
        have z0 := hbk.cell 0 rfl
        have z1 := hbk.cell 1 rfl
        have z2 := hbk.cell 2 rfl
        have z3 := hbk.cell 3 rfl
        have z4 := hbk.cell 4 rfl
        have z5 := hbk.cell 5 rfl
        have fz0 := hbk.free 0
        have fz1 := hbk.free 1
        have fz2 := hbk.free 2
        have fz3 := hbk.free 3
        have fz4 := hbk.free 4
        have fz5 := hbk.free 5
        have lz := hbk.lt
        clear hbk
        have hgr := H9.out.gr
        go_wp2_with fail
        have b2 := ((((((H9.out.setZ 0 (.int .i64 V1)).setZ 1 (.int .i64 1)).setZ 2 (.int .i64 V2)).setZ 3 (.int .i64 V3)).setZ 4 (.int .i64 0)).setZ 5 (.slice a8 m8 c8)).z
        (try simp only [Exit.inBlock, Exit.then])
        refine bodyPost_ret (results_cell_row rfl _ _ r 44 #[.int .i64 V1, .int .i64 1, .int .i64 V2, .int .i64 V3, .int .i64 0, .slice a8 m8 c8] (0, 0) _ rfl b2 Try.underlying44 rfl (by kernel_rfl)) rfl ?_
        have hm8 := HM8.out
        subst hm8
        have k1 := Own.keep HF8.out HMS.out (fun k hk e => (HA8.out k hk).1 e)
        have k2 := Own.keep k1 (Mod.set6 w9 r (.int .i64 V1) (.int .i64 1) (.int .i64 V2) (.int .i64 V3) (.int .i64 0) (.slice a8 bd.length c8)) (fun k hk e => (HA8.out k hk).2 e)
        have k3 := (((((((H9.out.setZ 0 (.int .i64 V1)).setZ 1 (.int .i64 1)).setZ 2 (.int .i64 V2)).setZ 3 (.int .i64 V3)).setZ 4 (.int .i64 0)).setZ 5 (.slice a8 bd.length c8))).mod
        refine ⟨a8, c8, ?_, ?_, k3⟩
        · rw [P1.out, HBY.out]; rfl
        · rw [P1.out, HBY.out]; exact k2
      case neg =>
        have z1 : (kind == 1) = false := beq_eq_false_iff_ne.2 k1
        have z2 : (kind == 2) = false := beq_eq_false_iff_ne.2 k2
        have z3 : (kind == 3) = false := beq_eq_false_iff_ne.2 k3
        have PK := Lib.hid (P0.out kind k1 k2 k3)
        clear k1 k2 k3
        have hbk := H3.out.g
        have q0 := hbk.cell 0 rfl
        have q1 := hbk.cell 1 rfl
        have q2 := hbk.cell 2 rfl
        have q3 := hbk.cell 3 rfl
        have q4 := hbk.cell 4 rfl
        have q5 := hbk.cell 5 rfl
        have lq := hbk.lt
        clear hbk
        have hbk := H3.out.z
        have z0 := hbk.cell 0 rfl
        have z1 := hbk.cell 1 rfl
        have z2 := hbk.cell 2 rfl
        have z3 := hbk.cell 3 rfl
        have z4 := hbk.cell 4 rfl
        have z5 := hbk.cell 5 rfl
        have fz0 := hbk.free 0
        have fz1 := hbk.free 1
        have fz2 := hbk.free 2
        have fz3 := hbk.free 3
        have fz4 := hbk.free 4
        have fz5 := hbk.free 5
        have lz := hbk.lt
        clear hbk
        have hgr := H3.out.gr
        go_wp2_with fail
        have b2 := ((((((H3.out.setZ 0 (.int .i64 V1)).setZ 1 (.int .i64 kind)).setZ 2 (.int .i64 0)).setZ 3 (.int .i64 0)).setZ 4 (.int .i64 0)).setZ 5 (.slice none 0 0)).z
        (try simp only [Exit.inBlock, Exit.then])
        refine bodyPost_ret (results_cell_row rfl _ _ r 44 #[.int .i64 V1, .int .i64 kind, .int .i64 0, .int .i64 0, .int .i64 0, .slice none 0 0] (0, 0) _ rfl b2 Try.underlying44 rfl (by kernel_rfl)) rfl ?_
        refine ⟨none, 0, ?_, ?_, ((((((H3.out.setZ 0 (.int .i64 V1)).setZ 1 (.int .i64 kind)).setZ 2 (.int .i64 0)).setZ 3 (.int .i64 0)).setZ 4 (.int .i64 0)).setZ 5 (.slice none 0 0)).mod⟩
        · rw [PK.out]; rfl
        · rw [PK.out]; exact World.ownsRow_nil _ _ _ _
end Go.Proofs.Ytabfmnlpipbegaa
