/- Package frame's Unwrap, by contract. -/
import Derived.Test.YtabfmnlpipbegaaFr1
namespace Mile
open Go Go.RowKit
def bodyN (b : List Int) : Int := b.getD 3 0 * 256 + b.getD 4 0
/-- Are bytes a frame, but for the version, and how long it may be? -/
def framed (b : List Int) : Prop := (9 ≤ b.length ∧ (b.length : Int) = bodyN b + 9) ∧ b.getD 0 0 = 77 ∧ undigs 0 (b.drop (b.length - 4)) = (csum (b.take (b.length - 4))).toNat
instance (b : List Int) : Decidable (framed b) := by unfold framed; infer_instance
def unS (b : List Int) : (Int × List Int) × Int :=
  if framed b then (if b.getD 1 0 = 3 then (if bodyN b ≤ 2000 then ((b.getD 2 0, (b.drop 5).take (b.length - 9)), 0) else ((0, []), 2)) else ((0, []), 3)) else ((0, []), 2)
end Mile
namespace Go.Proofs.Ytabfmnlpipbegaa
open Go.RowKit Mile
set_option maxRecDepth 100000

/-- The reads of Unwrap, one after the other. -/
def rd1 (b : List Int) := numR 1 (some b)
def rd2 (b : List Int) := numR 1 (rd1 b).2
def rd3 (b : List Int) := numR 1 (rd2 b).2
def rd4 (b : List Int) := numR 2 (rd3 b).2
def rd5 (b : List Int) := takeS (rd4 b).1 (rd4 b).2
def rd6 (b : List Int) := numR 4 (rd5 b).2

theorem numR_some (size : Nat) (h : sizeOk (size : Int) = true) (l : List Int) : numR (size : Int) (some l) = if size ≤ l.length then (undigs 0 (l.take size), some (l.drop size)) else (0, none) := by
  unfold numR
  rw [if_pos h]
  unfold takeS
  simp only [Option.getD_some]
  by_cases hl : size ≤ l.length
  · rw [if_pos ⟨by omega, by omega⟩, if_pos hl]; simp
  · rw [if_neg (by omega), if_neg hl]; rfl
theorem numR_none (size : Nat) (h : 1 ≤ size) : numR (size : Int) none = (0, none) := by
  unfold numR
  by_cases hs : sizeOk (size : Int) = true
  · rw [if_pos hs]; unfold takeS; simp only [Option.getD_none, List.length_nil]; rw [if_neg (by omega)]; rfl
  · rw [if_neg hs]
theorem takeS_none' (n : Int) : (takeS n none).2 = none := by
  unfold takeS; split <;> rfl
/-- What was read is all just if the length is right; then each part is where it is said to be. -/
theorem reads (b : List Int) (hb : ∀ x ∈ b, 0 ≤ x ∧ x < 256) :
    ((rd6 b).2 = some [] ↔ (9 ≤ b.length ∧ (b.length : Int) = bodyN b + 9)) ∧
    ((9 ≤ b.length ∧ (b.length : Int) = bodyN b + 9) → (rd1 b).1 = b.getD 0 0 ∧ (rd2 b).1 = b.getD 1 0 ∧ (rd3 b).1 = b.getD 2 0 ∧ (rd5 b).1 = (b.drop 5).take (b.length - 9) ∧ (rd6 b).1 = undigs 0 (b.drop (b.length - 4))) := by
  have h0 : ∀ l : List Int, numR 1 (some l) = if 1 ≤ l.length then (undigs 0 (l.take 1), some (l.drop 1)) else (0, none) := fun l => numR_some 1 (by decide) l
  have h2 : ∀ l : List Int, numR 2 (some l) = if 2 ≤ l.length then (undigs 0 (l.take 2), some (l.drop 2)) else (0, none) := fun l => numR_some 2 (by decide) l
  have h4 : ∀ l : List Int, numR 4 (some l) = if 4 ≤ l.length then (undigs 0 (l.take 4), some (l.drop 4)) else (0, none) := fun l => numR_some 4 (by decide) l
  have n1 : numR 1 none = (0, none) := numR_none 1 (by omega)
  have n2 : numR 2 none = (0, none) := numR_none 2 (by omega)
  have n4 : numR 4 none = (0, none) := numR_none 4 (by omega)
  match b with
  | [] => simp [rd6, rd5, rd4, rd3, rd2, rd1, h0, n1, n2, n4, takeS_none']
  | [x0] => simp [rd6, rd5, rd4, rd3, rd2, rd1, h0, n1, n2, n4, takeS_none']
  | [x0, x1] => simp [rd6, rd5, rd4, rd3, rd2, rd1, h0, n2, n4, takeS_none']
  | [x0, x1, x2] => simp [rd6, rd5, rd4, rd3, rd2, rd1, h0, h2, n4, takeS_none']
  | [x0, x1, x2, x3] => simp [rd6, rd5, rd4, rd3, rd2, rd1, h0, h2, n4, takeS_none']
  | x0 :: x1 :: x2 :: x3 :: x4 :: r =>
    have e1 : rd1 (x0 :: x1 :: x2 :: x3 :: x4 :: r) = (x0, some (x1 :: x2 :: x3 :: x4 :: r)) := by simp [rd1, h0, undigs]
    have e2 : rd2 (x0 :: x1 :: x2 :: x3 :: x4 :: r) = (x1, some (x2 :: x3 :: x4 :: r)) := by simp [rd2, e1, h0, undigs]
    have e3 : rd3 (x0 :: x1 :: x2 :: x3 :: x4 :: r) = (x2, some (x3 :: x4 :: r)) := by simp [rd3, e2, h0, undigs]
    have e4 : rd4 (x0 :: x1 :: x2 :: x3 :: x4 :: r) = (x3 * 256 + x4, some r) := by simp [rd4, e3, h2, undigs]
    have hn : bodyN (x0 :: x1 :: x2 :: x3 :: x4 :: r) = x3 * 256 + x4 := rfl
    have b3 := hb x3 (by simp)
    have b4 := hb x4 (by simp)
    have hlen : ((x0 :: x1 :: x2 :: x3 :: x4 :: r).length : Int) = r.length + 5 := by simp only [List.length_cons]; omega
    rw [hn]
    obtain ⟨N, hN⟩ := Int.eq_ofNat_of_zero_le (show 0 ≤ x3 * 256 + x4 by omega)
    rw [hN] at e4 ⊢
    by_cases hl : N ≤ r.length
    · have e5 : rd5 (x0 :: x1 :: x2 :: x3 :: x4 :: r) = (r.take N, some (r.drop N)) := by
        unfold rd5
        rw [e4]
        unfold takeS
        simp only [Option.getD_some]
        rw [if_pos ⟨by omega, by omega⟩]; simp
      by_cases h4' : 4 ≤ (r.drop N).length
      · have e6 : rd6 (x0 :: x1 :: x2 :: x3 :: x4 :: r) = (undigs 0 ((r.drop N).take 4), some ((r.drop N).drop 4)) := by unfold rd6; rw [e5, h4, if_pos h4']
        rw [e6, e1, e2, e3, e5]
        rw [List.length_drop] at h4'
        refine ⟨?_, fun ⟨_, hh⟩ => ⟨rfl, rfl, rfl, ?_, ?_⟩⟩
        · simp only [Option.some.injEq, List.drop_eq_nil_iff, List.length_drop, List.length_cons]; omega
        · have : (x0 :: x1 :: x2 :: x3 :: x4 :: r).length - 9 = N := by omega
          rw [this]; rfl
        · have h9 : (x0 :: x1 :: x2 :: x3 :: x4 :: r).length - 4 = N + 5 := by omega
          rw [h9]
          have : (r.drop N).length = 4 := by rw [List.length_drop]; omega
          show undigs 0 ((r.drop N).take 4) = undigs 0 ((x0 :: x1 :: x2 :: x3 :: x4 :: r).drop (N + 5))
          rw [List.take_of_length_le (by omega)]
          rfl
      · have e6 : (rd6 (x0 :: x1 :: x2 :: x3 :: x4 :: r)).2 = none := by unfold rd6; rw [e5, h4, if_neg h4']
        rw [e6]
        rw [List.length_drop] at h4'
        exact ⟨⟨fun h => (by cases h), fun h => (by omega)⟩, fun h => (by omega)⟩
    · have e5 : (rd5 (x0 :: x1 :: x2 :: x3 :: x4 :: r)).2 = none := by
        unfold rd5
        rw [e4]
        unfold takeS
        simp only [Option.getD_some]
        rw [if_neg (by omega)]
      have e6 : (rd6 (x0 :: x1 :: x2 :: x3 :: x4 :: r)).2 = none := by unfold rd6; rw [e5, n4]
      rw [e6]
      exact ⟨⟨fun h => (by cases h), fun h => (by omega)⟩, fun h => (by omega)⟩

theorem numR_sub {size : Int} {s : Option (List Int)} : ∀ x ∈ (numR size s).2.getD [], x ∈ s.getD [] := by
  intro x hx
  unfold numR takeS at hx
  split at hx
  · split at hx
    · cases s with
      | none => simp at hx
      | some l => simp at hx; exact List.mem_of_mem_drop hx
    · simp at hx
  · simp at hx
theorem takeS_sub {n : Int} {s : Option (List Int)} : ∀ x ∈ (takeS n s).2.getD [], x ∈ s.getD [] := by
  intro x hx
  unfold takeS at hx
  split at hx
  · cases s with
    | none => simp at hx
    | some l => simp at hx; exact List.mem_of_mem_drop hx
  · simp at hx
theorem numR_len {size : Int} {s : Option (List Int)} : ((numR size s).2.getD []).length ≤ (s.getD []).length := by
  unfold numR takeS
  split
  · split
    · cases s with
      | none => simp
      | some l => simp
    · simp
  · simp
/-- What Unwrap tells. -/
def UnwrapP (b : List Int) (w : World) (e : Ending) (w' : World) : Prop :=
  ∃ a c, e = .returned (.tuple #[.int .i64 (unS b).1.1, .slice a (unS b).1.2.length c, .int .i64 (unS b).2]) ∧ Fresh w' w.heap.size (.slice a (unS b).1.2.length c) (unS b).1.2 ∧ Mod (fun _ => False) w w'
/-- A Reader of the call's own; nothing that was there has turned. -/
structure RdSt (w W : World) (p : Nat) (s : Option (List Int)) (F : Nat → Prop) : Prop where
  r : Rdr W p s F
  low : ∀ k, F k → w.heap.size ≤ k
  self : F p
  mod : Mod (fun _ => False) w W
theorem RdSt.aft {w W W' : World} {p : Nat} {s s' : Option (List Int)} {F : Nat → Prop} (h : RdSt w W p s F) (hO : Rdr W' p s' F) (ha : Mod (fun k => k = p) W W') : RdSt w W' p s' F :=
  ⟨hO, h.low, h.self, h.mod.trans ha (fun _ _ e => e) (fun i hi e => by have := h.low p h.self; omega)⟩
theorem rdr_self {w : World} {p : Nat} {s : Option (List Int)} {F : Nat → Prop} (h : Rdr w p s F) : F p := by obtain ⟨_, _, _, h3, _⟩ := h; exact h3

set_option maxHeartbeats 4000000 in
theorem unwrap_any (w : World) (a : Option Addr) (n c : Nat) (b : List Int) (hn : b.length = n) (hr : Rd w 1 (.slice a n c) n (b.map (Value.int .u8))) (hb : ∀ x ∈ b, 0 ≤ x ∧ x < 256) (hm : n ≤ 1000000) :
    Calls Try.prog 36 #[.slice a n c] w (UnwrapP b w) := by
  obtain ⟨i0, hi, hz0, hz1, hz2⟩ := info_parts Chk.info5
  have HN := Lib.hid hn
  clear hn
  have HRE := Lib.hid (reads b hb)
  have R0 : ∀ x ∈ (some b).getD [], 0 ≤ x ∧ x < 256 := hb
  have L0 : ((some b).getD []).length ≤ 1000000 := by show b.length ≤ _; rw [HN.out]; exact hm
  obtain ⟨S0, hS0⟩ : ∃ S, some b = S := ⟨_, rfl⟩
  obtain ⟨V1, S1, e1⟩ : ∃ V S, numR 1 (some b) = (V, S) := ⟨_, _, rfl⟩
  have d1 : rd1 b = (V1, S1) := e1
  have R1 : ∀ x ∈ S1.getD [], 0 ≤ x ∧ x < 256 := fun x hx => R0 x (numR_sub (size := 1) x (by rw [e1]; exact hx))
  have L1 : (S1.getD []).length ≤ 1000000 := by have := @numR_len 1 (some b); rw [e1] at this; exact Nat.le_trans this L0
  obtain ⟨V2, S2, e2⟩ : ∃ V S, numR 1 S1 = (V, S) := ⟨_, _, rfl⟩
  have d2 : rd2 b = (V2, S2) := by unfold rd2; rw [d1]; exact e2
  have R2 : ∀ x ∈ S2.getD [], 0 ≤ x ∧ x < 256 := fun x hx => R1 x (numR_sub (size := 1) x (by rw [e2]; exact hx))
  have L2 : (S2.getD []).length ≤ 1000000 := by have := @numR_len 1 S1; rw [e2] at this; exact Nat.le_trans this L1
  obtain ⟨V3, S3, e3⟩ : ∃ V S, numR 1 S2 = (V, S) := ⟨_, _, rfl⟩
  have d3 : rd3 b = (V3, S3) := by unfold rd3; rw [d2]; exact e3
  have R3 : ∀ x ∈ S3.getD [], 0 ≤ x ∧ x < 256 := fun x hx => R2 x (numR_sub (size := 1) x (by rw [e3]; exact hx))
  have L3 : (S3.getD []).length ≤ 1000000 := by have := @numR_len 1 S2; rw [e3] at this; exact Nat.le_trans this L2
  obtain ⟨V4, S4, e4⟩ : ∃ V S, numR 2 S3 = (V, S) := ⟨_, _, rfl⟩
  have d4 : rd4 b = (V4, S4) := by unfold rd4; rw [d3]; exact e4
  have R4 : ∀ x ∈ S4.getD [], 0 ≤ x ∧ x < 256 := fun x hx => R3 x (numR_sub (size := 2) x (by rw [e4]; exact hx))
  have L4 : (S4.getD []).length ≤ 1000000 := by have := @numR_len 2 S3; rw [e4] at this; exact Nat.le_trans this L3
  obtain ⟨V5, S5, e5⟩ : ∃ V S, takeS V4 S4 = (V, S) := ⟨_, _, rfl⟩
  have d5 : rd5 b = (V5, S5) := by unfold rd5; rw [d4]; exact e5
  have R5 : ∀ x ∈ S5.getD [], 0 ≤ x ∧ x < 256 := fun x hx => R4 x (takeS_sub (n := V4) x (by rw [e5]; exact hx))
  obtain ⟨V6, S6, e6⟩ : ∃ V S, numR 4 S5 = (V, S) := ⟨_, _, rfl⟩
  have d6 : rd6 b = (V6, S6) := by unfold rd6; rw [d5]; exact e6
  have hre := HRE.out
  rw [d1, d2, d3, d5, d6] at hre
  clear HRE d1 d2 d3 d4 d5 d6 hS0 L0 L1 L2 L3
  have HRE := Lib.hid hre
  have E1 := Lib.hid e1
  have E2 := Lib.hid e2
  have E3 := Lib.hid e3
  have E4 := Lib.hid e4
  have E5 := Lib.hid e5
  have E6 := Lib.hid e6
  have HB := Lib.hid hb
  clear hre e1 e2 e3 e4 e5 e6 hb
  go_enter Try.func36, Try.ntmps36
  go_wp2_with fail
  refine (read_any w (.slice a n c) b (by rw [HN.out]; exact hr) (by rw [HN.out]; omega)).mono ?_
  rintro e w1 ⟨p, F, rfl, hR, hlow, hM⟩
  have h1 : RdSt w w1 p (some b) F := ⟨hR, hlow, rdr_self hR, hM⟩
  clear hR hlow hM
  go_wp2_with fail
  refine (num_any p _ (some b) F h1.r R0 1).mono ?_
  rw [E1.out]
  rintro e w2 ⟨rfl, hR, hM⟩
  have h2 := h1.aft hR hM
  clear h1 hR hM R0
  go_wp2_with fail
  refine (num_any p _ S1 F h2.r R1 1).mono ?_
  rw [E2.out]
  rintro e w3 ⟨rfl, hR, hM⟩
  have h3 := h2.aft hR hM
  clear h2 hR hM
  go_wp2_with fail
  refine (num_any p _ S2 F h3.r R2 1).mono ?_
  rw [E3.out]
  rintro e w4 ⟨rfl, hR, hM⟩
  have h4 := h3.aft hR hM
  clear h3 hR hM
  go_wp2_with fail
  refine (num_any p _ S3 F h4.r R3 2).mono ?_
  rw [E4.out]
  rintro e w5 ⟨rfl, hR, hM⟩
  have h5 := h4.aft hR hM
  clear h4 hR hM
  go_wp2_with fail
  refine (rraw_any p _ S4 F h5.r V4 (by omega)).mono ?_
  rw [E5.out]
  rintro e w6 ⟨v5, rfl, hF5, hR, hM⟩
  have h6 := h5.aft hR hM
  have hF5' := Lib.hid (Own.base hF5 h5.mod.size)
  have hA5 : Hid (∀ k, v5.ownBlock = some k → k ≠ p) := Lib.hid fun k hk e => by
    have := (hF5.lt k hk).1
    have := h5.r.lt p h5.self
    omega
  obtain ⟨a5, c5, rfl⟩ := own_form hF5
  clear h5 hR hM hF5
  go_wp2_with fail
  refine (num_any p _ S5 F h6.r R5 4).mono ?_
  rw [E6.out]
  rintro e w7 ⟨rfl, hR, hM⟩
  have h7 := h6.aft hR hM
  have hF7 := Lib.hid (Own.keep hF5'.out hM hA5.out)
  clear hR hM h6 hF5' hA5
  have hM7 := Lib.hid h7.mod
  by_cases hd : 9 ≤ b.length ∧ (b.length : Int) = bodyN b + 9
  · have hs6 := HRE.out.1.2 hd
    obtain ⟨v1, v2, v3, v5, v6⟩ := HRE.out.2 hd
    subst hs6
    have hn9 : 9 ≤ n := by rw [← HN.out]; exact hd.1
    obtain ⟨m, hmn⟩ : ∃ m, n = m + 4 := ⟨n - 4, by omega⟩
    have HD := Lib.hid hd
    have HV1 := Lib.hid v1
    have HV2 := Lib.hid v2
    have HV3 := Lib.hid v3
    have HV5 := Lib.hid v5
    have HV6 := Lib.hid v6
    clear hd v1 v2 v3 v5 v6
    by_cases c1 : V1 = 77
    · subst c1
      subst hmn
      have hmc : m ≤ c := by obtain ⟨_, a', c', he, h1, _⟩ := hr; cases he; omega
      have hts := fun wx => run_takeS (P := Try.prog) wx 27 5 i0 Try.underlying27 hi a (m + 4) c m hmc
      have hrt := (hr.keepA h7.mod (fun _ _ e => e.elim)).take (n := m) (by omega)
      rw [Nat.mul_one, ← List.map_take] at hrt
      have hml : (b.take m).length = m := by rw [List.length_take, HN.out]; omega
      have hbt : ∀ x ∈ b.take m, 0 ≤ x ∧ x < 256 := fun x hx => HB.out x (List.mem_of_mem_take hx)
      have HRT := Lib.hid hrt
      have HF : Hid (framed b ↔ V6 = (csum (b.take m)).toNat) := Lib.hid (by
        unfold framed
        rw [← HV6.out, ← HV1.out, HN.out, show m + 4 - 4 = m by omega]
        constructor
        · exact fun h => h.2.2
        · intro h; exact ⟨by rw [← HN.out]; exact HD.out, rfl, h⟩)
      have hV5 : V5.length = m - 5 := by
        rw [HV5.out, List.length_take, List.length_drop, HN.out]; omega
      have hbn : bodyN b = ((m - 5 : Nat) : Int) := by have := HD.out.2; rw [HN.out] at this; omega
      have HBN := Lib.hid hbn
      have hlt := (csum (b.take m)).isLt
      have hfl : csum (flat [(Value.slice a m c, b.take m)]) = csum (b.take m) := by simp [flat]
      have HFL := Lib.hid hfl
      obtain ⟨sm, hsm⟩ : ∃ sm, (csum (b.take m)).toNat = sm := ⟨_, rfl⟩
      rw [hsm] at HF hlt
      have HSM := Lib.hid hsm
      have hlt2 : sm < 4294967296 := by simpa using hlt
      have HML := Lib.hid hml
      clear hfl hsm hlt hrt hml hbn
      rw [hV5] at hF7 ⊢
      go_wp2_with fail
      refine (done_any p _ _ F h7.r).mono ?_
      rw [show doneS (some []) = 0 from rfl]
      rintro e w8 ⟨rfl, rfl⟩
      clear h7
      go_wp2_with fail
      refine (sum_any _ 1 1 [(.slice a m c, b.take m)] _ rfl (Parts.one1 (Rd.one w7 _ _) (by rw [HML.out]; exact HRT.out.alloc _) hbt)).mono ?_
      rw [HFL.out, HSM.out]
      rintro e w9 ⟨rfl, rfl⟩
      have hM9 := hM7.out.thenAlloc (.cells #[.slice a m c] 27)
      have HM9 := Lib.hid hM9
      have HF9 := Lib.hid (Own.keep hF7.out (Mod.alloc (fun _ => False) w7 (.cells #[.slice a m c] 27)) (fun _ _ e => e))
      clear hM9 hM7 hF7
      by_cases c2 : V6 = (sm : Int)
      · have hfr : framed b := HF.out.2 c2
        subst c2
        by_cases c3 : V2 = 3
        · subst c3
          by_cases c4 : m - 5 ≤ 2000
          · have g4 : decide ((2000 : Int) < ((m - 5 : Nat) : Int)) = false := by simp; omega
            have g5 : decide (2000 < m - 5) = false := by simp; omega
            have hun : Hid (unS b = ((V3, V5), 0)) := Lib.hid (by
              unfold unS
              rw [if_pos hfr, if_pos HV2.out.symm, if_pos (by rw [HBN.out]; omega), ← HV3.out, ← HV5.out])
            have HFR := Lib.hid hfr
            clear hfr
            go_wp2_with fail
            go_ret3
            exact ⟨a5, c5, by rw [hun.out]; show _ = Ending.returned (.tuple #[_, .slice a5 V5.length c5, _]); rw [hV5]; rfl, by rw [hun.out]; unfold Fresh; show World.ownsRow _ _ _ _ (.slice a5 V5.length c5) V5.length _; rw [hV5]; exact HF9.out, HM9.out⟩
          · have g4 : decide ((2000 : Int) < ((m - 5 : Nat) : Int)) = true := by simp; omega
            have g5 : decide (2000 < m - 5) = true := by simp; omega
            have hun : Hid (unS b = ((0, []), 2)) := Lib.hid (by
              unfold unS
              rw [if_pos hfr, if_pos HV2.out.symm, if_neg (by rw [HBN.out]; omega)])
            have HFR := Lib.hid hfr
            clear hfr
            go_wp2_with fail
            go_ret3
            exact ⟨_, _, by rw [hun.out]; rfl, by rw [hun.out]; exact World.ownsRow_nil _ _ _ _, HM9.out⟩
        · have g3 : (V2 != 3) = true := by simpa using c3
          have g4 : (V2 == 3) = false := by simpa using c3
          have hun : Hid (unS b = ((0, []), 3)) := Lib.hid (by
            unfold unS
            rw [if_pos hfr, if_neg (fun h => c3 (by rw [HV2.out]; exact h))])
          have HFR := Lib.hid hfr
          clear hfr
          go_wp2_with fail
          go_ret3
          exact ⟨_, _, by rw [hun.out]; rfl, by rw [hun.out]; exact World.ownsRow_nil _ _ _ _, HM9.out⟩
      · have g3 : (V6 != (sm : Int)) = true := by simpa using c2
        have g4 : (V6 == (sm : Int)) = false := by simpa using c2
        have hun : Hid (unS b = ((0, []), 2)) := Lib.hid (by
          unfold unS
          rw [if_neg (fun h => c2 (HF.out.1 h))])
        go_wp2_with fail
        go_ret3
        exact ⟨_, _, by rw [hun.out]; rfl, by rw [hun.out]; exact World.ownsRow_nil _ _ _ _, HM9.out⟩
    · have hv1 : (V1 != 77) = true := by simpa using c1
      have hv2 : (V1 == 77) = false := by simpa using c1
      have hun : Hid (unS b = ((0, []), 2)) := Lib.hid (by unfold unS; rw [if_neg]; exact fun h => c1 (by rw [HV1.out]; exact h.2.1))
      go_wp2_with fail
      refine (done_any p _ _ F h7.r).mono ?_
      rw [show doneS (some []) = 0 from rfl]
      rintro e w8 ⟨rfl, rfl⟩
      clear h7
      go_wp2_with fail
      go_ret3
      exact ⟨_, _, by rw [hun.out]; rfl, by rw [hun.out]; exact World.ownsRow_nil _ _ _ _, hM7.out⟩
  · have hs6 : doneS S6 = 2 := by unfold doneS; rw [if_neg]; exact fun h => hd (HRE.out.1.1 h)
    have hun : Hid (unS b = ((0, []), 2)) := Lib.hid (by unfold unS; rw [if_neg]; exact fun h => hd h.1)
    have HS6 := Lib.hid hs6
    clear hs6 hd
    go_wp2_with fail
    refine (done_any p _ S6 F h7.r).mono ?_
    rw [HS6.out]
    rintro e w8 ⟨rfl, rfl⟩
    clear h7
    go_wp2_with fail
    go_ret3
    exact ⟨_, _, by rw [hun.out]; rfl, by rw [hun.out]; exact World.ownsRow_nil _ _ _ _, hM7.out⟩
end Go.Proofs.Ytabfmnlpipbegaa
