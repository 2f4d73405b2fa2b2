/- The reference's ReadGram by contract. -/
import Derived.Test.YtabfmnlpipbegaaGram3
import Derived.Test.YtabfmnlpipbegaaRef1b
import Derived.Test.YtabfmnlpipbegaaShp
import Derived.Deep.DeepCutAuto
import Derived.Deep.CutBlock
namespace Go.Proofs.Ytabfmnlpipbegaa
open Go.RowKit Mile
set_option maxRecDepth 100000
theorem done_k1 {b : List Int} : (takeS (((rS3 b).getD []).length : Int) (rS3 b)).2 = some [] ↔ 12 ≤ b.length := by
  have key : ∀ (s : Option (List Int)), (takeS ((s.getD []).length : Int) s).2 = some [] ↔ s ≠ none := by
    intro s
    cases s with
    | none => simp [takeS]
    | some l => simp [takeS]
  rw [key]
  unfold rS3 rS2 rS1
  by_cases h1 : 4 ≤ b.length
  · obtain ⟨l1, m1, rfl, e1, f1⟩ := split4 b h1
    rw [show numR 4 (some (l1 ++ m1)) = (undigs 0 l1, some m1) from numR_ok 4 ok4 _ _ e1]
    simp only
    by_cases h2 : 4 ≤ m1.length
    · obtain ⟨l2, m2, rfl, e2, f2⟩ := split4 m1 h2
      rw [show numR 4 (some (l2 ++ m2)) = (undigs 0 l2, some m2) from numR_ok 4 ok4 _ _ e2]
      simp only
      by_cases h3 : 4 ≤ m2.length
      · obtain ⟨l3, m3, rfl, e3, f3⟩ := split4 m2 h3
        rw [show numR 4 (some (l3 ++ m3)) = (undigs 0 l3, some m3) from numR_ok 4 ok4 _ _ e3]
        simp at f1 f2 ⊢; omega
      · rw [show numR 4 (some m2) = (0, none) from numR_bad 4 ok4 _ (by omega)]
        simp at f1 f2 ⊢; omega
    · rw [show numR 4 (some m1) = (0, none) from numR_bad 4 ok4 _ (by omega)]
      simp only
      rw [show numR 4 none = (0, none) from numR_none4 4 ok4]
      simp at f1 ⊢; omega
  · rw [show numR 4 (some b) = (0, none) from numR_bad 4 ok4 _ (by omega)]
    simp only
    rw [show numR 4 none = (0, none) from numR_none4 4 ok4]
    simp only
    rw [show numR 4 none = (0, none) from numR_none4 4 ok4]
    simp; omega
theorem done_k2 {b : List Int} : (numR 4 (rS1 b)).2 = some [] ↔ b.length = 8 := by
  unfold rS1
  by_cases h1 : 4 ≤ b.length
  · obtain ⟨l1, m1, rfl, e1, f1⟩ := split4 b h1
    rw [show numR 4 (some (l1 ++ m1)) = (undigs 0 l1, some m1) from numR_ok 4 ok4 _ _ e1]
    simp only
    by_cases h2 : 4 ≤ m1.length
    · obtain ⟨l2, m2, rfl, e2, f2⟩ := split4 m1 h2
      rw [show numR 4 (some (l2 ++ m2)) = (undigs 0 l2, some m2) from numR_ok 4 ok4 _ _ e2]
      simp only [Option.some.injEq]
      constructor
      · intro h; subst h; simp at f1 f2 ⊢; omega
      · intro h; refine List.eq_nil_of_length_eq_zero ?_; simp at h; omega
    · rw [show numR 4 (some m1) = (0, none) from numR_bad 4 ok4 _ (by omega)]
      simp at f1 ⊢; omega
  · rw [show numR 4 (some b) = (0, none) from numR_bad 4 ok4 _ (by omega)]
    simp only
    rw [show numR 4 none = (0, none) from numR_none4 4 ok4]
    simp; omega
theorem done_k3 {b : List Int} : (numR 1 (rS1 b)).2 = some [] ↔ b.length = 5 := by
  unfold rS1
  by_cases h1 : 4 ≤ b.length
  · obtain ⟨l1, m1, rfl, e1, f1⟩ := split4 b h1
    rw [show numR 4 (some (l1 ++ m1)) = (undigs 0 l1, some m1) from numR_ok 4 ok4 _ _ e1]
    simp only
    cases m1 with
    | nil =>
      rw [show numR 1 (some []) = (0, none) from numR_bad 1 ok1 _ (by simp)]
      simp at f1 ⊢; omega
    | cons x m2 =>
      rw [show numR 1 (some (x :: m2)) = (undigs 0 [x], some m2) from numR_ok 1 ok1 [x] m2 rfl]
      simp only [Option.some.injEq]
      constructor
      · intro h; subst h; simp at f1 ⊢; omega
      · intro h; refine List.eq_nil_of_length_eq_zero ?_; simp at h; omega
  · rw [show numR 4 (some b) = (0, none) from numR_bad 4 ok4 _ (by omega)]
    simp only
    rw [show numR 1 none = (0, none) from numR_none4 1 ok1]
    simp; omega
/-- The reference's reader, a struct variable at gb that is written, and one at r that is the answer's. -/
structure RQ (w W : World) (T : TypeId) (r gb p : Nat) (s : Option (List Int)) (cs zs : List Value) : Prop where
  rd : MR W p s p
  g : Blk W gb T cs
  z : Blk W r T zs
  pg : p < gb
  rp : r < p
  lr : w.heap.size ≤ r
  mod : Mod (fun _ => False) w W
theorem RQ.aft {w W W' : World} {T : TypeId} {r gb p : Nat} {s s' : Option (List Int)} {cs zs : List Value} (h : RQ w W T r gb p s cs zs) (hO : MR W' p s' p) (ha : Mod (fun k => k = p) W W') : RQ w W' T r gb p s' cs zs :=
  ⟨hO, h.g.keep ha (fun e => by have := h.pg; omega), h.z.keep ha (fun e => by have := h.rp; omega), h.pg, h.rp, h.lr, h.mod.old ha (fun i hi => by rw [hi]; have := h.rp; have := h.lr; omega)⟩
theorem RQ.set {w W : World} {T : TypeId} {r gb p : Nat} {s : Option (List Int)} {cs zs : List Value} (h : RQ w W T r gb p s cs zs) (i : Nat) (v : Value) : RQ w (W.setCell ⟨gb, i, none⟩ v) T r gb p s (cs.set i v) zs :=
  have hm : Mod (fun k => k = gb) W (W.setCell ⟨gb, i, none⟩ v) := Mod.setCell _ _ _ rfl
  have h1 := h.pg
  have h2 := h.rp
  have h3 := h.lr
  ⟨h.rd.keep hm (fun e => by omega) (fun k hk => by omega), h.g.set i v, h.z.keep hm (fun e => by omega), h1, h2, h3, h.mod.old hm (fun i hi => by omega)⟩
set_option maxHeartbeats 16000000 in
theorem rdecode_any (w : World) (a : Option Addr) (n c : Nat) (b : List Int) (hn : b.length = n) (hr : Rd w 1 (.slice a n c) n (b.map (Value.int .u8))) (hb : ∀ x ∈ b, 0 ≤ x ∧ x < 256) (hnb : n ≤ 100000) :
    Calls Try.prog 23 #[.slice a n c] w (GDecP b w) := by
  have HN := Lib.hid hn
  have HB := Lib.hid hb
  clear hn hb
  obtain ⟨r, hr0⟩ : ∃ b, w.heap.size = b := ⟨_, rfl⟩
  obtain ⟨w0, hw0⟩ : ∃ W, w.alloc (.cells #[.int .i64 0, .int .i64 0, .int .i64 0, .int .i64 0, .int .i64 0, .slice none 0 0] 44) = W := ⟨_, rfl⟩
  have hB : Blk w0 r 44 [.int .i64 0, .int .i64 0, .int .i64 0, .int .i64 0, .int .i64 0, .slice none 0 0] := by rw [← hw0, ← hr0]; exact Blk.new _ _ [.int .i64 0, .int .i64 0, .int .i64 0, .int .i64 0, .int .i64 0, .slice none 0 0]
  have hm0 : Mod (fun _ => False) w w0 := by rw [← hw0]; exact Mod.alloc _ _ _
  have HR := Lib.hid (hr.keep hm0 (fun _ _ e => e))
  have HQ := Lib.hid hB
  have HM0 := Lib.hid hm0
  have hrw : w.heap.size ≤ r := by omega
  clear hB hm0 hr
  go_enter Try.func23, Try.ntmps23
  go_upto_region 1 with fail
  try rw [hw0]
  try rw [hr0]
  clear hw0 hr0
  go_wp2_with fail
  refine (runwrap_any w0 a n c b HN.out HR.out HB.out (by omega)).mono ?_
  rintro e w1 ⟨a1, c1, rfl, hF, hm1⟩
  have hdz : (unS b).2 ≠ 0 → decG b = (zG, (unS b).2) := fun h => by unfold decG; rw [if_neg h]
  have hdd : (unS b).2 = 0 → decG b = if doneG (unS b).1.1 (unS b).1.2 then (pG2 (unS b).1.1 (unS b).1.2, 0) else (zG, 2) := fun h => by unfold decG; rw [if_pos h]
  have hbr := unS_range HB.out
  have hbl : (unS b).2 = 0 → (unS b).1.2.length ≤ 2000 := fun h => (unS_frame HB.out h).2.1
  obtain ⟨K, hK⟩ : ∃ x, (unS b).1.1 = x := ⟨_, rfl⟩
  obtain ⟨BD, hBD⟩ : ∃ x, (unS b).1.2 = x := ⟨_, rfl⟩
  obtain ⟨er, hER⟩ : ∃ x, (unS b).2 = x := ⟨_, rfl⟩
  rw [hBD] at hF hbr
  rw [hK, hBD, hER] at hdd ⊢
  rw [hER] at hdz hbl
  rw [hBD] at hbl
  obtain ⟨m, hmm⟩ : ∃ x, BD.length = x := ⟨_, rfl⟩
  have hrd1 : Rd w1 1 (.slice a1 m c1) m (BD.map (Value.int .u8)) := by have h := Rd.ofOwn hF; rw [hmm] at h; exact h
  have hlt1 : ∀ k, Value.ownBlock (.slice a1 m c1) = some k → k < w1.heap.size := fun k hk => (hF.lt k (by rw [hmm]; exact hk)).2
  rw [hmm]
  rw [hmm] at hbl
  have HQ1 := Lib.hid (HQ.out.keep hm1 (fun e => e))
  have HM1 := Lib.hid (HM0.out.of2 hm1)
  have HRD := Lib.hid hrd1
  have HLT := Lib.hid hlt1
  have HMM := Lib.hid hmm
  have HBR := Lib.hid hbr
  clear hrd1 hlt1 hmm hbr hF hm1 HQ HM0 HR hK hBD hER
  by_cases h0 : er = 0
  case neg =>
    have z0 : (er != 0) = true := by simpa using h0
    have HD := Lib.hid (hdz h0)
    clear hdz hdd hbl h0
    have hbk := HQ1.out
    have z0 := hbk.cell 0 rfl
    have z1 := hbk.cell 1 rfl
    have z2 := hbk.cell 2 rfl
    have z3 := hbk.cell 3 rfl
    have z4 := hbk.cell 4 rfl
    have z5 := hbk.cell 5 rfl
    have f0 := hbk.free 0
    have f1 := hbk.free 1
    have f2 := hbk.free 2
    have f3 := hbk.free 3
    have f4 := hbk.free 4
    have f5 := hbk.free 5
    have lz := hbk.lt
    clear hbk
    go_wp2_with fail
    have b2 := ((((((HQ1.out.set 0 (.int .i64 0)).set 1 (.int .i64 0)).set 2 (.int .i64 0)).set 3 (.int .i64 0)).set 4 (.int .i64 0)).set 5 (.slice none 0 0))
    have k2 := Mod.set6 w1 r (.int .i64 0) (.int .i64 0) (.int .i64 0) (.int .i64 0) (.int .i64 0) (.slice none 0 0)
    (try simp only [Exit.inBlock, Exit.then])
    refine bodyPost_ret (results_row_tmp rfl _ _ r 44 #[.int .i64 0, .int .i64 0, .int .i64 0, .int .i64 0, .int .i64 0, .slice none 0 0] (0, 0) _ rfl b2 Try.underlying44 rfl (by kernel_rfl)) rfl ?_
    exact ⟨none, 0, by rw [HD.out]; rfl, by rw [HD.out]; exact World.ownsRow_nil _ _ _ _, HM1.out.old k2 (fun i hi => by rw [hi]; exact hrw)⟩
  case pos =>
    have hm2k := hbl h0
    have hd0 := hdd h0
    subst h0
    have HDD := Lib.hid hd0
    clear hdz hbl hdd hd0
    obtain ⟨V1, S1, e1⟩ : ∃ V S, numR 4 (some BD) = (V, S) := ⟨_, _, rfl⟩
    have R0 : ∀ x ∈ (some BD).getD [], 0 ≤ x ∧ x < 256 := HBR.out
    have R1 : ∀ x ∈ S1.getD [], 0 ≤ x ∧ x < 256 := fun x hx => R0 x (numR_sub (size := 4) x (by rw [e1]; exact hx))
    have L1 : (S1.getD []).length ≤ BD.length := by have := @numR_len 4 (some BD); rw [e1] at this; exact this
    obtain ⟨V2, S2, e2⟩ : ∃ V S, numR 4 S1 = (V, S) := ⟨_, _, rfl⟩
    have R2 : ∀ x ∈ S2.getD [], 0 ≤ x ∧ x < 256 := fun x hx => R1 x (numR_sub (size := 4) x (by rw [e2]; exact hx))
    have L2 : (S2.getD []).length ≤ BD.length := by have := @numR_len 4 S1; rw [e2] at this; exact Nat.le_trans this L1
    obtain ⟨V3, S3, e3⟩ : ∃ V S, numR 4 S2 = (V, S) := ⟨_, _, rfl⟩
    have L3 : (S3.getD []).length ≤ BD.length := by have := @numR_len 4 S2; rw [e3] at this; exact Nat.le_trans this L2
    obtain ⟨V4, S4, e4⟩ : ∃ V S, numR 1 S1 = (V, S) := ⟨_, _, rfl⟩
    obtain ⟨V5, S5, e5⟩ : ∃ V S, takeS ((S3.getD []).length : Int) S3 = (V, S) := ⟨_, _, rfl⟩
    have d1 : rS1 BD = S1 := by unfold rS1; rw [e1]
    have d2 : rS2 BD = S2 := by unfold rS2; rw [d1, e2]
    have d3 : rS3 BD = S3 := by unfold rS3; rw [d2, e3]
    have P1 : K = 1 → decG b = if S5 = some [] then (⟨V1, 1, V2, V3, 0, V5⟩, 0) else (zG, 2) := by
      intro hk; subst hk; rw [HDD.out]
      have hq := @done_k1 BD
      rw [d3, e5] at hq
      have hp : pG2 1 BD = ⟨V1, 1, V2, V3, 0, V5⟩ := by unfold pG2; rw [if_pos rfl, d3, e1, d1, e2, d2, e3, e5]
      rw [hp]
      by_cases h : S5 = some []
      · rw [if_pos h, if_pos (show doneG 1 BD from Or.inl ⟨rfl, hq.1 h⟩)]
      · rw [if_neg h, if_neg (show ¬ doneG 1 BD from fun hx => hx.elim (fun y => h (hq.2 y.2)) (fun y => y.elim (fun z => absurd z.1 (by decide)) (fun z => absurd z.1 (by decide))))]
    have P2 : K = 2 → decG b = if S2 = some [] then (⟨V1, 2, 0, V2, 0, []⟩, 0) else (zG, 2) := by
      intro hk; subst hk; rw [HDD.out]
      have hq := @done_k2 BD
      rw [d1, e2] at hq
      have hp : pG2 2 BD = ⟨V1, 2, 0, V2, 0, []⟩ := by unfold pG2; rw [if_neg (by decide), if_pos rfl, e1, d1, e2]
      rw [hp]
      by_cases h : S2 = some []
      · rw [if_pos h, if_pos (show doneG 2 BD from Or.inr (Or.inl ⟨rfl, hq.1 h⟩))]
      · rw [if_neg h, if_neg (show ¬ doneG 2 BD from fun hx => hx.elim (fun y => absurd y.1 (by decide)) (fun y => y.elim (fun z => h (hq.2 z.2)) (fun z => absurd z.1 (by decide))))]
    have P3 : K = 3 → decG b = if S4 = some [] then (⟨V1, 3, 0, 0, V4, []⟩, 0) else (zG, 2) := by
      intro hk; subst hk; rw [HDD.out]
      have hq := @done_k3 BD
      rw [d1, e4] at hq
      have hp : pG2 3 BD = ⟨V1, 3, 0, 0, V4, []⟩ := by unfold pG2; rw [if_neg (by decide), if_neg (by decide), if_pos rfl, e1, d1, e4]
      rw [hp]
      by_cases h : S4 = some []
      · rw [if_pos h, if_pos (show doneG 3 BD from Or.inr (Or.inr ⟨rfl, hq.1 h⟩))]
      · rw [if_neg h, if_neg (show ¬ doneG 3 BD from fun hx => hx.elim (fun y => absurd y.1 (by decide)) (fun y => y.elim (fun z => absurd z.1 (by decide)) (fun z => h (hq.2 z.2))))]
    have P0 : K ≠ 1 → K ≠ 2 → K ≠ 3 → decG b = (zG, 2) := by
      intro h1 h2 h3; rw [HDD.out, if_neg (show ¬ doneG K BD from fun hx => hx.elim (fun y => h1 y.1) (fun y => y.elim (fun z => h2 z.1) (fun z => h3 z.1)))]
    have HP0 := Lib.hid P0
    have HP1 := Lib.hid P1
    have HP2 := Lib.hid P2
    have HP3 := Lib.hid P3
    have E1 := Lib.hid e1
    have E2 := Lib.hid e2
    have E3 := Lib.hid e3
    have E4 := Lib.hid e4
    have E5 := Lib.hid e5
    clear P0 P1 P2 P3 e1 e2 e3 e4 e5 d1 d2 d3 HDD
    go_upto_region 6 with fail
    obtain ⟨p, hp⟩ : ∃ b, w1.heap.size = b := ⟨_, rfl⟩
    obtain ⟨w2, hw2⟩ : ∃ W, w1.alloc (.cells #[.slice a1 m c1, .bool false] 69) = W := ⟨_, rfl⟩
    obtain ⟨gb, hgb⟩ : ∃ b, p + 1 = b := ⟨_, rfl⟩
    obtain ⟨w3, hw3⟩ : ∃ W, w2.alloc (.cells #[.int .i64 0, .int .i64 K, .int .i64 0, .int .i64 0, .int .i64 0, .slice none 0 0] 44) = W := ⟨_, rfl⟩
    rw [hw2, hp, hw3, hgb]
    have h3 : RQ w w3 44 r gb p (some BD) [.int .i64 0, .int .i64 K, .int .i64 0, .int .i64 0, .int .i64 0, .slice none 0 0] [.int .i64 0, .int .i64 0, .int .i64 0, .int .i64 0, .int .i64 0, .slice none 0 0] := by
      have hrl := HQ1.out.lt
      have hm12 : Mod (fun _ => False) w1 w2 := by rw [← hw2]; exact Mod.alloc _ _ _
      have hm23 : Mod (fun _ => False) w2 w3 := by rw [← hw3]; exact Mod.alloc _ _ _
      have hs2 : w2.heap.size = w1.heap.size + 1 := by rw [← hw2]; simp
      have hgs : w2.heap.size = gb := by omega
      have hnb : Blk w3 w2.heap.size 44 [.int .i64 0, .int .i64 K, .int .i64 0, .int .i64 0, .int .i64 0, .slice none 0 0] := by rw [← hw3]; exact Blk.new _ _ [.int .i64 0, .int .i64 K, .int .i64 0, .int .i64 0, .int .i64 0, .slice none 0 0]
      rw [hgs] at hnb
      refine ⟨⟨.slice a1 m c1, BD, ?_, ?_, .inr rfl, Nat.le_refl _, fun k hk hB => ?_⟩, ?_, ?_, by omega, by omega, hrw, ?_⟩
      · have h : Blk w2 p 69 [.slice a1 m c1, .bool false] := by rw [← hw2, ← hp]; exact Blk.new _ _ [.slice a1 m c1, .bool false]
        exact h.keep hm23 (fun e => e)
      · rw [HMM.out]; exact (HRD.out.keep hm12 (fun _ _ e => e)).keep hm23 (fun _ _ e => e)
      · have := HLT.out k hk; omega
      · exact hnb
      · exact (HQ1.out.keep hm12 (fun e => e)).keep hm23 (fun e => e)
      · exact (HM1.out.of2 hm12).of2 hm23
    have H3 := Lib.hid h3
    clear h3 hw2 hp hw3 hgb HQ1 HRD HLT
    by_cases k2 : K = 2
    case pos =>
      subst k2
      have hbk := H3.out.g
      have q0 := hbk.cell 0 rfl
      have q1 := hbk.cell 1 rfl
      have q2 := hbk.cell 2 rfl
      have q3 := hbk.cell 3 rfl
      have q4 := hbk.cell 4 rfl
      have q5 := hbk.cell 5 rfl
      have fq0 := hbk.free 0
      have fq1 := hbk.free 1
      have fq2 := hbk.free 2
      have fq3 := hbk.free 3
      have fq4 := hbk.free 4
      have fq5 := hbk.free 5
      have lq := hbk.lt
      clear hbk
      go_wp2_with fail
      refine (mnum_any p _ (some BD) p H3.out.rd R0 4).mono ?_
      rw [E1.out]
      rintro e w4 ⟨rfl, hR, hM⟩
      have H4 := Lib.hid (H3.out.aft hR hM)
      clear hR hM
      clear q0 q1 q2 q3 q4 q5 fq0 fq1 fq2 fq3 fq4 fq5 lq
      have hbk := H4.out.g
      have q0 := hbk.cell 0 rfl
      have q1 := hbk.cell 1 rfl
      have q2 := hbk.cell 2 rfl
      have q3 := hbk.cell 3 rfl
      have q4 := hbk.cell 4 rfl
      have q5 := hbk.cell 5 rfl
      have fq0 := hbk.free 0
      have fq1 := hbk.free 1
      have fq2 := hbk.free 2
      have fq3 := hbk.free 3
      have fq4 := hbk.free 4
      have fq5 := hbk.free 5
      have lq := hbk.lt
      clear hbk
      go_upto_region 15 with fail
      obtain ⟨w5, hw⟩ : ∃ W, World.setCell w4 ⟨gb, 0, none⟩ (.int .i64 V1) = W := ⟨_, rfl⟩
      rw [hw]
      clear q0 q1 q2 q3 q4 q5 fq0 fq1 fq2 fq3 fq4 fq5 lq
      have H5 : Hid (RQ w w5 44 r gb p _ [.int .i64 V1, .int .i64 2, .int .i64 0, .int .i64 0, .int .i64 0, .slice none 0 0] [.int .i64 0, .int .i64 0, .int .i64 0, .int .i64 0, .int .i64 0, .slice none 0 0]) := Lib.hid (by rw [← hw]; exact H4.out.set 0 (.int .i64 V1))
      have HMS : Hid (Mod (fun k => k = gb) w4 w5) := Lib.hid (by rw [← hw]; exact Mod.setCell _ _ _ rfl)
      clear hw
      have hbk := H5.out.g
      have q0 := hbk.cell 0 rfl
      have q1 := hbk.cell 1 rfl
      have q2 := hbk.cell 2 rfl
      have q3 := hbk.cell 3 rfl
      have q4 := hbk.cell 4 rfl
      have q5 := hbk.cell 5 rfl
      have fq0 := hbk.free 0
      have fq1 := hbk.free 1
      have fq2 := hbk.free 2
      have fq3 := hbk.free 3
      have fq4 := hbk.free 4
      have fq5 := hbk.free 5
      have lq := hbk.lt
      clear hbk
      go_wp2_with fail
      refine (mnum_any p _ S1 p H5.out.rd R1 4).mono ?_
      rw [E2.out]
      rintro e w6 ⟨rfl, hR, hM⟩
      have H6 := Lib.hid (H5.out.aft hR hM)
      clear hR hM
      clear q0 q1 q2 q3 q4 q5 fq0 fq1 fq2 fq3 fq4 fq5 lq
      have hbk := H6.out.g
      have q0 := hbk.cell 0 rfl
      have q1 := hbk.cell 1 rfl
      have q2 := hbk.cell 2 rfl
      have q3 := hbk.cell 3 rfl
      have q4 := hbk.cell 4 rfl
      have q5 := hbk.cell 5 rfl
      have fq0 := hbk.free 0
      have fq1 := hbk.free 1
      have fq2 := hbk.free 2
      have fq3 := hbk.free 3
      have fq4 := hbk.free 4
      have fq5 := hbk.free 5
      have lq := hbk.lt
      clear hbk
      go_upto_region 19 with fail
      obtain ⟨w7, hw⟩ : ∃ W, World.setCell w6 ⟨gb, 3, none⟩ (.int .i64 V2) = W := ⟨_, rfl⟩
      rw [hw]
      clear q0 q1 q2 q3 q4 q5 fq0 fq1 fq2 fq3 fq4 fq5 lq
      have H7 : Hid (RQ w w7 44 r gb p _ [.int .i64 V1, .int .i64 2, .int .i64 0, .int .i64 V2, .int .i64 0, .slice none 0 0] [.int .i64 0, .int .i64 0, .int .i64 0, .int .i64 0, .int .i64 0, .slice none 0 0]) := Lib.hid (by rw [← hw]; exact H6.out.set 3 (.int .i64 V2))
      have HMS : Hid (Mod (fun k => k = gb) w6 w7) := Lib.hid (by rw [← hw]; exact Mod.setCell _ _ _ rfl)
      clear hw
      have hdec := HP2.out (by first | trivial | rfl)
      have HDC := Lib.hid hdec
      clear hdec
      go_wp2_with fail
      refine (mdone_any p _ S2 p H7.out.rd).mono ?_
      rintro e w' ⟨rfl, rfl⟩
      by_cases hs : S2 = some []
      case neg =>
        rw [decide_eq_false hs]
        have HD : Hid (decG b = (zG, 2)) := Lib.hid (by rw [HDC.out, if_neg hs])
        clear hs
        have hbk := H7.out.z
        have z0 := hbk.cell 0 rfl
        have z1 := hbk.cell 1 rfl
        have z2 := hbk.cell 2 rfl
        have z3 := hbk.cell 3 rfl
        have z4 := hbk.cell 4 rfl
        have z5 := hbk.cell 5 rfl
        have f0 := hbk.free 0
        have f1 := hbk.free 1
        have f2 := hbk.free 2
        have f3 := hbk.free 3
        have f4 := hbk.free 4
        have f5 := hbk.free 5
        have lz := hbk.lt
        clear hbk
        go_wp2_with fail
        have b2 := ((((((H7.out.z.set 0 (.int .i64 0)).set 1 (.int .i64 0)).set 2 (.int .i64 0)).set 3 (.int .i64 0)).set 4 (.int .i64 0)).set 5 (.slice none 0 0))
        have k2 := Mod.set6 w7 r (.int .i64 0) (.int .i64 0) (.int .i64 0) (.int .i64 0) (.int .i64 0) (.slice none 0 0)
        (try simp only [Exit.inBlock, Exit.then])
        refine bodyPost_ret (results_row_tmp rfl _ _ r 44 #[.int .i64 0, .int .i64 0, .int .i64 0, .int .i64 0, .int .i64 0, .slice none 0 0] (0, 0) _ rfl b2 Try.underlying44 rfl (by kernel_rfl)) rfl ?_
        exact ⟨none, 0, by rw [HD.out]; rfl, by rw [HD.out]; exact World.ownsRow_nil _ _ _ _, H7.out.mod.old k2 (fun i hi => by rw [hi]; exact hrw)⟩
      case pos =>
        rw [decide_eq_true hs]
        have HD := HDC.out
        rw [if_pos hs] at HD
        have HD2 := Lib.hid HD
        clear HD hs
        have hbk := H7.out.z
        have z0 := hbk.cell 0 rfl
        have z1 := hbk.cell 1 rfl
        have z2 := hbk.cell 2 rfl
        have z3 := hbk.cell 3 rfl
        have z4 := hbk.cell 4 rfl
        have z5 := hbk.cell 5 rfl
        have f0 := hbk.free 0
        have f1 := hbk.free 1
        have f2 := hbk.free 2
        have f3 := hbk.free 3
        have f4 := hbk.free 4
        have f5 := hbk.free 5
        have lz := hbk.lt
        clear hbk
        have hbk := H7.out.g
        have q0 := hbk.cell 0 rfl
        have q1 := hbk.cell 1 rfl
        have q2 := hbk.cell 2 rfl
        have q3 := hbk.cell 3 rfl
        have q4 := hbk.cell 4 rfl
        have q5 := hbk.cell 5 rfl
        have lq := hbk.lt
        clear hbk
        go_wp2_with fail
        have b2 := ((((((H7.out.z.set 0 (.int .i64 V1)).set 1 (.int .i64 2)).set 2 (.int .i64 0)).set 3 (.int .i64 V2)).set 4 (.int .i64 0)).set 5 (.slice none 0 0))
        have k2 := Mod.set6 w7 r (.int .i64 V1) (.int .i64 2) (.int .i64 0) (.int .i64 V2) (.int .i64 0) (.slice none 0 0)
        (try simp only [Exit.inBlock, Exit.then])
        refine bodyPost_ret (results_row_tmp rfl _ _ r 44 #[.int .i64 V1, .int .i64 2, .int .i64 0, .int .i64 V2, .int .i64 0, .slice none 0 0] (0, 0) _ rfl b2 Try.underlying44 rfl (by kernel_rfl)) rfl ?_
        have hz := H7.out.mod.old k2 (fun i hi => by rw [hi]; exact hrw)
        exact ⟨none, 0, by rw [HD2.out]; rfl, by rw [HD2.out]; exact World.ownsRow_nil _ _ _ _, hz⟩
    case neg =>
      by_cases k3 : K = 3
      case pos =>
        subst k3
        have hbk := H3.out.g
        have q0 := hbk.cell 0 rfl
        have q1 := hbk.cell 1 rfl
        have q2 := hbk.cell 2 rfl
        have q3 := hbk.cell 3 rfl
        have q4 := hbk.cell 4 rfl
        have q5 := hbk.cell 5 rfl
        have fq0 := hbk.free 0
        have fq1 := hbk.free 1
        have fq2 := hbk.free 2
        have fq3 := hbk.free 3
        have fq4 := hbk.free 4
        have fq5 := hbk.free 5
        have lq := hbk.lt
        clear hbk
        go_wp2_with fail
        refine (mnum_any p _ (some BD) p H3.out.rd R0 4).mono ?_
        rw [E1.out]
        rintro e w8 ⟨rfl, hR, hM⟩
        have H8 := Lib.hid (H3.out.aft hR hM)
        clear hR hM
        clear q0 q1 q2 q3 q4 q5 fq0 fq1 fq2 fq3 fq4 fq5 lq
        have hbk := H8.out.g
        have q0 := hbk.cell 0 rfl
        have q1 := hbk.cell 1 rfl
        have q2 := hbk.cell 2 rfl
        have q3 := hbk.cell 3 rfl
        have q4 := hbk.cell 4 rfl
        have q5 := hbk.cell 5 rfl
        have fq0 := hbk.free 0
        have fq1 := hbk.free 1
        have fq2 := hbk.free 2
        have fq3 := hbk.free 3
        have fq4 := hbk.free 4
        have fq5 := hbk.free 5
        have lq := hbk.lt
        clear hbk
        go_upto_region 18 with fail
        obtain ⟨w9, hw⟩ : ∃ W, World.setCell w8 ⟨gb, 0, none⟩ (.int .i64 V1) = W := ⟨_, rfl⟩
        rw [hw]
        clear q0 q1 q2 q3 q4 q5 fq0 fq1 fq2 fq3 fq4 fq5 lq
        have H9 : Hid (RQ w w9 44 r gb p _ [.int .i64 V1, .int .i64 3, .int .i64 0, .int .i64 0, .int .i64 0, .slice none 0 0] [.int .i64 0, .int .i64 0, .int .i64 0, .int .i64 0, .int .i64 0, .slice none 0 0]) := Lib.hid (by rw [← hw]; exact H8.out.set 0 (.int .i64 V1))
        have HMS : Hid (Mod (fun k => k = gb) w8 w9) := Lib.hid (by rw [← hw]; exact Mod.setCell _ _ _ rfl)
        clear hw
        have hbk := H9.out.g
        have q0 := hbk.cell 0 rfl
        have q1 := hbk.cell 1 rfl
        have q2 := hbk.cell 2 rfl
        have q3 := hbk.cell 3 rfl
        have q4 := hbk.cell 4 rfl
        have q5 := hbk.cell 5 rfl
        have fq0 := hbk.free 0
        have fq1 := hbk.free 1
        have fq2 := hbk.free 2
        have fq3 := hbk.free 3
        have fq4 := hbk.free 4
        have fq5 := hbk.free 5
        have lq := hbk.lt
        clear hbk
        go_wp2_with fail
        refine (mnum_any p _ S1 p H9.out.rd R1 1).mono ?_
        rw [E4.out]
        rintro e w10 ⟨rfl, hR, hM⟩
        have H10 := Lib.hid (H9.out.aft hR hM)
        clear hR hM
        clear q0 q1 q2 q3 q4 q5 fq0 fq1 fq2 fq3 fq4 fq5 lq
        have hbk := H10.out.g
        have q0 := hbk.cell 0 rfl
        have q1 := hbk.cell 1 rfl
        have q2 := hbk.cell 2 rfl
        have q3 := hbk.cell 3 rfl
        have q4 := hbk.cell 4 rfl
        have q5 := hbk.cell 5 rfl
        have fq0 := hbk.free 0
        have fq1 := hbk.free 1
        have fq2 := hbk.free 2
        have fq3 := hbk.free 3
        have fq4 := hbk.free 4
        have fq5 := hbk.free 5
        have lq := hbk.lt
        clear hbk
        go_upto_region 19 with fail
        obtain ⟨w11, hw⟩ : ∃ W, World.setCell w10 ⟨gb, 4, none⟩ (.int .i64 V4) = W := ⟨_, rfl⟩
        rw [hw]
        clear q0 q1 q2 q3 q4 q5 fq0 fq1 fq2 fq3 fq4 fq5 lq
        have H11 : Hid (RQ w w11 44 r gb p _ [.int .i64 V1, .int .i64 3, .int .i64 0, .int .i64 0, .int .i64 V4, .slice none 0 0] [.int .i64 0, .int .i64 0, .int .i64 0, .int .i64 0, .int .i64 0, .slice none 0 0]) := Lib.hid (by rw [← hw]; exact H10.out.set 4 (.int .i64 V4))
        have HMS : Hid (Mod (fun k => k = gb) w10 w11) := Lib.hid (by rw [← hw]; exact Mod.setCell _ _ _ rfl)
        clear hw
        have hdec := HP3.out (by first | trivial | rfl)
        have HDC := Lib.hid hdec
        clear hdec
        go_wp2_with fail
        refine (mdone_any p _ S4 p H11.out.rd).mono ?_
        rintro e w' ⟨rfl, rfl⟩
        by_cases hs : S4 = some []
        case neg =>
          rw [decide_eq_false hs]
          have HD : Hid (decG b = (zG, 2)) := Lib.hid (by rw [HDC.out, if_neg hs])
          clear hs
          have hbk := H11.out.z
          have z0 := hbk.cell 0 rfl
          have z1 := hbk.cell 1 rfl
          have z2 := hbk.cell 2 rfl
          have z3 := hbk.cell 3 rfl
          have z4 := hbk.cell 4 rfl
          have z5 := hbk.cell 5 rfl
          have f0 := hbk.free 0
          have f1 := hbk.free 1
          have f2 := hbk.free 2
          have f3 := hbk.free 3
          have f4 := hbk.free 4
          have f5 := hbk.free 5
          have lz := hbk.lt
          clear hbk
          go_wp2_with fail
          have b2 := ((((((H11.out.z.set 0 (.int .i64 0)).set 1 (.int .i64 0)).set 2 (.int .i64 0)).set 3 (.int .i64 0)).set 4 (.int .i64 0)).set 5 (.slice none 0 0))
          have k2 := Mod.set6 w11 r (.int .i64 0) (.int .i64 0) (.int .i64 0) (.int .i64 0) (.int .i64 0) (.slice none 0 0)
          (try simp only [Exit.inBlock, Exit.then])
          refine bodyPost_ret (results_row_tmp rfl _ _ r 44 #[.int .i64 0, .int .i64 0, .int .i64 0, .int .i64 0, .int .i64 0, .slice none 0 0] (0, 0) _ rfl b2 Try.underlying44 rfl (by kernel_rfl)) rfl ?_
          exact ⟨none, 0, by rw [HD.out]; rfl, by rw [HD.out]; exact World.ownsRow_nil _ _ _ _, H11.out.mod.old k2 (fun i hi => by rw [hi]; exact hrw)⟩
        case pos =>
          rw [decide_eq_true hs]
          have HD := HDC.out
          rw [if_pos hs] at HD
          have HD2 := Lib.hid HD
          clear HD hs
          have hbk := H11.out.z
          have z0 := hbk.cell 0 rfl
          have z1 := hbk.cell 1 rfl
          have z2 := hbk.cell 2 rfl
          have z3 := hbk.cell 3 rfl
          have z4 := hbk.cell 4 rfl
          have z5 := hbk.cell 5 rfl
          have f0 := hbk.free 0
          have f1 := hbk.free 1
          have f2 := hbk.free 2
          have f3 := hbk.free 3
          have f4 := hbk.free 4
          have f5 := hbk.free 5
          have lz := hbk.lt
          clear hbk
          have hbk := H11.out.g
          have q0 := hbk.cell 0 rfl
          have q1 := hbk.cell 1 rfl
          have q2 := hbk.cell 2 rfl
          have q3 := hbk.cell 3 rfl
          have q4 := hbk.cell 4 rfl
          have q5 := hbk.cell 5 rfl
          have lq := hbk.lt
          clear hbk
          go_wp2_with fail
          have b2 := ((((((H11.out.z.set 0 (.int .i64 V1)).set 1 (.int .i64 3)).set 2 (.int .i64 0)).set 3 (.int .i64 0)).set 4 (.int .i64 V4)).set 5 (.slice none 0 0))
          have k2 := Mod.set6 w11 r (.int .i64 V1) (.int .i64 3) (.int .i64 0) (.int .i64 0) (.int .i64 V4) (.slice none 0 0)
          (try simp only [Exit.inBlock, Exit.then])
          refine bodyPost_ret (results_row_tmp rfl _ _ r 44 #[.int .i64 V1, .int .i64 3, .int .i64 0, .int .i64 0, .int .i64 V4, .slice none 0 0] (0, 0) _ rfl b2 Try.underlying44 rfl (by kernel_rfl)) rfl ?_
          have hz := H11.out.mod.old k2 (fun i hi => by rw [hi]; exact hrw)
          exact ⟨none, 0, by rw [HD2.out]; rfl, by rw [HD2.out]; exact World.ownsRow_nil _ _ _ _, hz⟩
      case neg =>
        by_cases k1 : K = 1
        case pos =>
          subst k1
          have hbk := H3.out.g
          have q0 := hbk.cell 0 rfl
          have q1 := hbk.cell 1 rfl
          have q2 := hbk.cell 2 rfl
          have q3 := hbk.cell 3 rfl
          have q4 := hbk.cell 4 rfl
          have q5 := hbk.cell 5 rfl
          have fq0 := hbk.free 0
          have fq1 := hbk.free 1
          have fq2 := hbk.free 2
          have fq3 := hbk.free 3
          have fq4 := hbk.free 4
          have fq5 := hbk.free 5
          have lq := hbk.lt
          clear hbk
          go_wp2_with fail
          refine (mnum_any p _ (some BD) p H3.out.rd R0 4).mono ?_
          rw [E1.out]
          rintro e w12 ⟨rfl, hR, hM⟩
          have H12 := Lib.hid (H3.out.aft hR hM)
          clear hR hM
          clear q0 q1 q2 q3 q4 q5 fq0 fq1 fq2 fq3 fq4 fq5 lq
          have hbk := H12.out.g
          have q0 := hbk.cell 0 rfl
          have q1 := hbk.cell 1 rfl
          have q2 := hbk.cell 2 rfl
          have q3 := hbk.cell 3 rfl
          have q4 := hbk.cell 4 rfl
          have q5 := hbk.cell 5 rfl
          have fq0 := hbk.free 0
          have fq1 := hbk.free 1
          have fq2 := hbk.free 2
          have fq3 := hbk.free 3
          have fq4 := hbk.free 4
          have fq5 := hbk.free 5
          have lq := hbk.lt
          clear hbk
          go_upto_region 10 with fail
          obtain ⟨w13, hw⟩ : ∃ W, World.setCell w12 ⟨gb, 0, none⟩ (.int .i64 V1) = W := ⟨_, rfl⟩
          rw [hw]
          clear q0 q1 q2 q3 q4 q5 fq0 fq1 fq2 fq3 fq4 fq5 lq
          have H13 : Hid (RQ w w13 44 r gb p _ [.int .i64 V1, .int .i64 1, .int .i64 0, .int .i64 0, .int .i64 0, .slice none 0 0] [.int .i64 0, .int .i64 0, .int .i64 0, .int .i64 0, .int .i64 0, .slice none 0 0]) := Lib.hid (by rw [← hw]; exact H12.out.set 0 (.int .i64 V1))
          have HMS : Hid (Mod (fun k => k = gb) w12 w13) := Lib.hid (by rw [← hw]; exact Mod.setCell _ _ _ rfl)
          clear hw
          have hbk := H13.out.g
          have q0 := hbk.cell 0 rfl
          have q1 := hbk.cell 1 rfl
          have q2 := hbk.cell 2 rfl
          have q3 := hbk.cell 3 rfl
          have q4 := hbk.cell 4 rfl
          have q5 := hbk.cell 5 rfl
          have fq0 := hbk.free 0
          have fq1 := hbk.free 1
          have fq2 := hbk.free 2
          have fq3 := hbk.free 3
          have fq4 := hbk.free 4
          have fq5 := hbk.free 5
          have lq := hbk.lt
          clear hbk
          go_wp2_with fail
          refine (mnum_any p _ S1 p H13.out.rd R1 4).mono ?_
          rw [E2.out]
          rintro e w14 ⟨rfl, hR, hM⟩
          have H14 := Lib.hid (H13.out.aft hR hM)
          clear hR hM
          clear q0 q1 q2 q3 q4 q5 fq0 fq1 fq2 fq3 fq4 fq5 lq
          have hbk := H14.out.g
          have q0 := hbk.cell 0 rfl
          have q1 := hbk.cell 1 rfl
          have q2 := hbk.cell 2 rfl
          have q3 := hbk.cell 3 rfl
          have q4 := hbk.cell 4 rfl
          have q5 := hbk.cell 5 rfl
          have fq0 := hbk.free 0
          have fq1 := hbk.free 1
          have fq2 := hbk.free 2
          have fq3 := hbk.free 3
          have fq4 := hbk.free 4
          have fq5 := hbk.free 5
          have lq := hbk.lt
          clear hbk
          go_upto_region 11 with fail
          obtain ⟨w15, hw⟩ : ∃ W, World.setCell w14 ⟨gb, 2, none⟩ (.int .i64 V2) = W := ⟨_, rfl⟩
          rw [hw]
          clear q0 q1 q2 q3 q4 q5 fq0 fq1 fq2 fq3 fq4 fq5 lq
          have H15 : Hid (RQ w w15 44 r gb p _ [.int .i64 V1, .int .i64 1, .int .i64 V2, .int .i64 0, .int .i64 0, .slice none 0 0] [.int .i64 0, .int .i64 0, .int .i64 0, .int .i64 0, .int .i64 0, .slice none 0 0]) := Lib.hid (by rw [← hw]; exact H14.out.set 2 (.int .i64 V2))
          have HMS : Hid (Mod (fun k => k = gb) w14 w15) := Lib.hid (by rw [← hw]; exact Mod.setCell _ _ _ rfl)
          clear hw
          have hbk := H15.out.g
          have q0 := hbk.cell 0 rfl
          have q1 := hbk.cell 1 rfl
          have q2 := hbk.cell 2 rfl
          have q3 := hbk.cell 3 rfl
          have q4 := hbk.cell 4 rfl
          have q5 := hbk.cell 5 rfl
          have fq0 := hbk.free 0
          have fq1 := hbk.free 1
          have fq2 := hbk.free 2
          have fq3 := hbk.free 3
          have fq4 := hbk.free 4
          have fq5 := hbk.free 5
          have lq := hbk.lt
          clear hbk
          go_wp2_with fail
          refine (mnum_any p _ S2 p H15.out.rd R2 4).mono ?_
          rw [E3.out]
          rintro e w16 ⟨rfl, hR, hM⟩
          have H16 := Lib.hid (H15.out.aft hR hM)
          clear hR hM
          clear q0 q1 q2 q3 q4 q5 fq0 fq1 fq2 fq3 fq4 fq5 lq
          have hbk := H16.out.g
          have q0 := hbk.cell 0 rfl
          have q1 := hbk.cell 1 rfl
          have q2 := hbk.cell 2 rfl
          have q3 := hbk.cell 3 rfl
          have q4 := hbk.cell 4 rfl
          have q5 := hbk.cell 5 rfl
          have fq0 := hbk.free 0
          have fq1 := hbk.free 1
          have fq2 := hbk.free 2
          have fq3 := hbk.free 3
          have fq4 := hbk.free 4
          have fq5 := hbk.free 5
          have lq := hbk.lt
          clear hbk
          go_upto_region 12 with fail
          obtain ⟨w17, hw⟩ : ∃ W, World.setCell w16 ⟨gb, 3, none⟩ (.int .i64 V3) = W := ⟨_, rfl⟩
          rw [hw]
          clear q0 q1 q2 q3 q4 q5 fq0 fq1 fq2 fq3 fq4 fq5 lq
          have H17 : Hid (RQ w w17 44 r gb p _ [.int .i64 V1, .int .i64 1, .int .i64 V2, .int .i64 V3, .int .i64 0, .slice none 0 0] [.int .i64 0, .int .i64 0, .int .i64 0, .int .i64 0, .int .i64 0, .slice none 0 0]) := Lib.hid (by rw [← hw]; exact H16.out.set 3 (.int .i64 V3))
          have HMS : Hid (Mod (fun k => k = gb) w16 w17) := Lib.hid (by rw [← hw]; exact Mod.setCell _ _ _ rfl)
          clear hw
          go_wp2_with fail
          refine (mleft_any p _ S3 p H17.out.rd).mono ?_
          rintro e w' ⟨rfl, rfl⟩
          go_wp2_with fail
          refine (mraw_any p _ S3 p H17.out.rd ((S3.getD []).length : Int) (by have := HMM.out; omega)).mono ?_
          rw [E5.out]
          rintro e wr ⟨v8, rfl, hF, hR, hM⟩
          have HQR := Lib.hid (H17.out.aft hR hM)
          obtain ⟨a8, c8, rfl⟩ := own_form hF
          obtain ⟨m8, hm8⟩ : ∃ x, V5.length = x := ⟨_, rfl⟩
          have HM8 := Lib.hid hm8
          have hA8 : ∀ k, Value.ownBlock (.slice a8 V5.length c8) = some k → k ≠ gb ∧ k ≠ r := fun k hk => by have h1 := (hF.lt k hk).1; have h2 := H17.out.g.lt; have h3 := H17.out.z.lt; omega
          have hF8 := Own.base hF (show w.heap.size ≤ w17.heap.size from H17.out.mod.size)
          have HA8 := Lib.hid hA8
          have HF8 := Lib.hid hF8
          clear hF hR hM hA8 hF8
          rw [hm8] at HA8 HF8 ⊢
          clear hm8
          have hbk := HQR.out.g
          have q0 := hbk.cell 0 rfl
          have q1 := hbk.cell 1 rfl
          have q2 := hbk.cell 2 rfl
          have q3 := hbk.cell 3 rfl
          have q4 := hbk.cell 4 rfl
          have q5 := hbk.cell 5 rfl
          have fq0 := hbk.free 0
          have fq1 := hbk.free 1
          have fq2 := hbk.free 2
          have fq3 := hbk.free 3
          have fq4 := hbk.free 4
          have fq5 := hbk.free 5
          have lq := hbk.lt
          clear hbk
          go_upto_region 19 with fail
          obtain ⟨w18, hw⟩ : ∃ W, World.setCell wr ⟨gb, 5, none⟩ (.slice a8 m8 c8) = W := ⟨_, rfl⟩
          rw [hw]
          clear q0 q1 q2 q3 q4 q5 fq0 fq1 fq2 fq3 fq4 fq5 lq
          have H18 : Hid (RQ w w18 44 r gb p _ [.int .i64 V1, .int .i64 1, .int .i64 V2, .int .i64 V3, .int .i64 0, .slice a8 m8 c8] [.int .i64 0, .int .i64 0, .int .i64 0, .int .i64 0, .int .i64 0, .slice none 0 0]) := Lib.hid (by rw [← hw]; exact HQR.out.set 5 (.slice a8 m8 c8))
          have HMS : Hid (Mod (fun k => k = gb) wr w18) := Lib.hid (by rw [← hw]; exact Mod.setCell _ _ _ rfl)
          clear hw
          have hdec := HP1.out (by first | trivial | rfl)
          have HDC := Lib.hid hdec
          clear hdec
          go_wp2_with fail
          refine (mdone_any p _ S5 p H18.out.rd).mono ?_
          rintro e w' ⟨rfl, rfl⟩
          by_cases hs : S5 = some []
          case neg =>
            rw [decide_eq_false hs]
            have HD : Hid (decG b = (zG, 2)) := Lib.hid (by rw [HDC.out, if_neg hs])
            clear hs
            have hbk := H18.out.z
            have z0 := hbk.cell 0 rfl
            have z1 := hbk.cell 1 rfl
            have z2 := hbk.cell 2 rfl
            have z3 := hbk.cell 3 rfl
            have z4 := hbk.cell 4 rfl
            have z5 := hbk.cell 5 rfl
            have f0 := hbk.free 0
            have f1 := hbk.free 1
            have f2 := hbk.free 2
            have f3 := hbk.free 3
            have f4 := hbk.free 4
            have f5 := hbk.free 5
            have lz := hbk.lt
            clear hbk
            go_wp2_with fail
            have b2 := ((((((H18.out.z.set 0 (.int .i64 0)).set 1 (.int .i64 0)).set 2 (.int .i64 0)).set 3 (.int .i64 0)).set 4 (.int .i64 0)).set 5 (.slice none 0 0))
            have k2 := Mod.set6 w18 r (.int .i64 0) (.int .i64 0) (.int .i64 0) (.int .i64 0) (.int .i64 0) (.slice none 0 0)
            (try simp only [Exit.inBlock, Exit.then])
            refine bodyPost_ret (results_row_tmp rfl _ _ r 44 #[.int .i64 0, .int .i64 0, .int .i64 0, .int .i64 0, .int .i64 0, .slice none 0 0] (0, 0) _ rfl b2 Try.underlying44 rfl (by kernel_rfl)) rfl ?_
            exact ⟨none, 0, by rw [HD.out]; rfl, by rw [HD.out]; exact World.ownsRow_nil _ _ _ _, H18.out.mod.old k2 (fun i hi => by rw [hi]; exact hrw)⟩
          case pos =>
            rw [decide_eq_true hs]
            have HD := HDC.out
            rw [if_pos hs] at HD
            have HD2 := Lib.hid HD
            clear HD hs
            have hbk := H18.out.z
            have z0 := hbk.cell 0 rfl
            have z1 := hbk.cell 1 rfl
            have z2 := hbk.cell 2 rfl
            have z3 := hbk.cell 3 rfl
            have z4 := hbk.cell 4 rfl
            have z5 := hbk.cell 5 rfl
            have f0 := hbk.free 0
            have f1 := hbk.free 1
            have f2 := hbk.free 2
            have f3 := hbk.free 3
            have f4 := hbk.free 4
            have f5 := hbk.free 5
            have lz := hbk.lt
            clear hbk
            have hbk := H18.out.g
            have q0 := hbk.cell 0 rfl
            have q1 := hbk.cell 1 rfl
            have q2 := hbk.cell 2 rfl
            have q3 := hbk.cell 3 rfl
            have q4 := hbk.cell 4 rfl
            have q5 := hbk.cell 5 rfl
            have lq := hbk.lt
            clear hbk
            go_wp2_with fail
            have b2 := ((((((H18.out.z.set 0 (.int .i64 V1)).set 1 (.int .i64 1)).set 2 (.int .i64 V2)).set 3 (.int .i64 V3)).set 4 (.int .i64 0)).set 5 (.slice a8 m8 c8))
            have k2 := Mod.set6 w18 r (.int .i64 V1) (.int .i64 1) (.int .i64 V2) (.int .i64 V3) (.int .i64 0) (.slice a8 m8 c8)
            (try simp only [Exit.inBlock, Exit.then])
            refine bodyPost_ret (results_row_tmp rfl _ _ r 44 #[.int .i64 V1, .int .i64 1, .int .i64 V2, .int .i64 V3, .int .i64 0, .slice a8 m8 c8] (0, 0) _ rfl b2 Try.underlying44 rfl (by kernel_rfl)) rfl ?_
            have hz := H18.out.mod.old k2 (fun i hi => by rw [hi]; exact hrw)
            have hm8 := HM8.out
            subst hm8
            exact ⟨a8, c8, by rw [HD2.out]; rfl, by rw [HD2.out]; exact Own.keep (Own.keep HF8.out HMS.out (fun k hk e => (HA8.out k hk).1 e)) k2 (fun k hk e => (HA8.out k hk).2 e), hz⟩
        case neg =>
          have z1 : (K == 1) = false := beq_eq_false_iff_ne.2 k1
          have z2 : (K == 2) = false := beq_eq_false_iff_ne.2 k2
          have z3 : (K == 3) = false := beq_eq_false_iff_ne.2 k3
          have HD := Lib.hid (HP0.out k1 k2 k3)
          clear k1 k2 k3
          have hbk := H3.out.z
          have z0 := hbk.cell 0 rfl
          have z1 := hbk.cell 1 rfl
          have z2 := hbk.cell 2 rfl
          have z3 := hbk.cell 3 rfl
          have z4 := hbk.cell 4 rfl
          have z5 := hbk.cell 5 rfl
          have f0 := hbk.free 0
          have f1 := hbk.free 1
          have f2 := hbk.free 2
          have f3 := hbk.free 3
          have f4 := hbk.free 4
          have f5 := hbk.free 5
          have lz := hbk.lt
          clear hbk
          go_wp2_with fail
          have b2 := ((((((H3.out.z.set 0 (.int .i64 0)).set 1 (.int .i64 0)).set 2 (.int .i64 0)).set 3 (.int .i64 0)).set 4 (.int .i64 0)).set 5 (.slice none 0 0))
          have k2 := Mod.set6 w3 r (.int .i64 0) (.int .i64 0) (.int .i64 0) (.int .i64 0) (.int .i64 0) (.slice none 0 0)
          (try simp only [Exit.inBlock, Exit.then])
          refine bodyPost_ret (results_row_tmp rfl _ _ r 44 #[.int .i64 0, .int .i64 0, .int .i64 0, .int .i64 0, .int .i64 0, .slice none 0 0] (0, 0) _ rfl b2 Try.underlying44 rfl (by kernel_rfl)) rfl ?_
          exact ⟨none, 0, by rw [HD.out]; rfl, by rw [HD.out]; exact World.ownsRow_nil _ _ _ _, H3.out.mod.old k2 (fun i hi => by rw [hi]; exact hrw)⟩
end Go.Proofs.Ytabfmnlpipbegaa
