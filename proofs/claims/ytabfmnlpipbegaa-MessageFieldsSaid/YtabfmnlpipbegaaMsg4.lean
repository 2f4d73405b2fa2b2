/- message.Decode by contract. -/
import Derived.Test.YtabfmnlpipbegaaMsg3
import Derived.Test.YtabfmnlpipbegaaGram3
import Derived.Deep.DeepCutAuto
import Derived.Deep.CutBlock
namespace Go.Proofs.Ytabfmnlpipbegaa
open Go.RowKit Mile
set_option maxRecDepth 100000
def zM : MsD := ⟨0, 0, 0, [], 0, 0, 0, 0, 0⟩
/-- What bytes are read as. -/
def decM (b : List Int) : MsD × Int := if mBytes (rdM b) = some b then (rdM b, 0) else (zM, 2)
theorem mBytes_range {m : MsD} {bs : List Int} (h : mBytes m = some bs) : ∀ x ∈ bs, 0 ≤ x ∧ x < 256 := by
  have k0 : ∀ x ∈ (some ([] : List Int)).getD [], 0 ≤ x ∧ x < 256 := by intro x hx; cases hx
  have st : ∀ (size : Int) (l : List Int) (s : Option (List Int)), (∀ x ∈ s.getD [], 0 ≤ x ∧ x < 256) → ∀ x ∈ (numsS size l s).getD [], 0 ≤ x ∧ x < 256 := fun size l s hs => by
    cases hh : numsS size l s with
    | none => intro x hx; cases hx
    | some y => intro x hx; exact nums_range (fun bs e => by subst e; exact hs) hh x hx
  have fin : ∀ {s : Option (List Int)}, s = some bs → (∀ x ∈ s.getD [], 0 ≤ x ∧ x < 256) → ∀ x ∈ bs, 0 ≤ x ∧ x < 256 := by intro s e hs; rw [e] at hs; exact hs
  unfold mBytes at h
  split at h
  · exact fin h (st _ _ _ (st _ _ _ k0))
  · split at h
    · exact fin h (st _ _ _ (st _ _ _ k0))
    · split at h
      · split at h
        · cases h
        · exact fin h (st _ _ _ (st _ _ _ (st _ _ _ (st _ _ _ k0))))
      · split at h
        · exact fin h (st _ _ _ (st _ _ _ (st _ _ _ (st _ _ _ k0))))
        · split at h
          · exact fin h (st _ _ _ k0)
          · cases h
theorem rdE_len : ∀ (f : Nat) (n : Int) (S : RS2) (acc : List Int), (rdE f n S acc).1.length ≤ acc.length + (S.getD []).length := by
  intro f
  induction f with
  | zero => intro n S acc; exact Nat.le_add_right _ _
  | succ f ih =>
    intro n S acc
    show (if _ then _ else _ : List Int × RS2).1.length ≤ _
    split
    · rename_i hc
      have h1 := ih n (numR 2 S).2 (acc ++ [(numR 2 S).1])
      have h2 := numR2_less hc.2
      rw [List.length_append] at h1
      simp only [List.length_cons, List.length_nil] at h1
      omega
    · exact Nat.le_add_right _ _
theorem rdM_len (b : List Int) : (rdM b).edges.length ≤ b.length := by
  have h1 : ((numR 1 (some b)).2.getD []).length ≤ b.length := @numR_len 1 (some b)
  have h2 := @numR_len 5 (numR 1 (some b)).2
  have h3 := @numR_len 2 (numR 5 (numR 1 (some b)).2).2
  have h4 := rdE_len ((numR 2 (numR 5 (numR 1 (some b)).2).2).2.getD []).length (numR 2 (numR 5 (numR 1 (some b)).2).2).1 (numR 2 (numR 5 (numR 1 (some b)).2).2).2 []
  rw [List.length_nil] at h4
  unfold rdM rdK
  split
  · simp
  · split
    · simp
    · split
      · show (rdEs (numR 5 (numR 1 (some b)).2).2).1.length ≤ _
        unfold rdEs
        omega
      · split <;> simp
theorem rdM_he {b : List Int} (hb : ∀ x ∈ b, 0 ≤ x ∧ x < 256) : -1 ≤ (rdM b).he ∧ (rdM b).he ≤ 65535 := by
  have hr : ∀ x ∈ (numR 1 (numR 1 (some b)).2).2.getD [], 0 ≤ x ∧ x < 256 := fun x hx => hb x (numR_sub (size := 1) (s := some b) x (numR_sub (size := 1) x hx))
  have h2 := numR2_bd hr
  unfold rdM rdK
  split
  · exact ⟨by show (-1 : Int) ≤ 0; decide, by show (0 : Int) ≤ 65535; decide⟩
  · split
    · exact ⟨by show (-1 : Int) ≤ 0; decide, by show (0 : Int) ≤ 65535; decide⟩
    · split
      · exact ⟨by show (-1 : Int) ≤ 0; decide, by show (0 : Int) ≤ 65535; decide⟩
      · split
        · refine ⟨?_, ?_⟩
          · show (-1 : Int) ≤ (numR 2 (numR 1 (numR 1 (some b)).2).2).1 - 1
            omega
          · show (numR 2 (numR 1 (numR 1 (some b)).2).2).1 - 1 ≤ (65535 : Int)
            omega
        · exact ⟨by show (-1 : Int) ≤ 0; decide, by show (0 : Int) ≤ 65535; decide⟩
/-- What Decode tells. -/
def MDecP (b : List Int) (w : World) (e : Ending) (w' : World) : Prop :=
  ∃ a c, e = .returned (.tuple #[msgV (decM b).1 a (decM b).1.edges.length c, .int .i64 (decM b).2]) ∧ World.ownsRow w' w.heap.size 3 1 (.slice a (decM b).1.edges.length c) (decM b).1.edges.length ((decM b).1.edges.map (Value.int .i64)) ∧ Mod (fun _ => False) w w'
set_option maxHeartbeats 16000000 in
theorem mdecode_any (w : World) (a : Option Addr) (n c : Nat) (b : List Int) (hn : b.length = n) (hr : Rd w 1 (.slice a n c) n (b.map (Value.int .u8))) (hb : ∀ x ∈ b, 0 ≤ x ∧ x < 256) (hnb : n ≤ 2000) :
    Calls Try.prog 12 #[.slice a n c] w (MDecP b w) := by
  have HN := Lib.hid hn
  have HB := Lib.hid hb
  have HDF : Hid (decM b = if mBytes (rdM b) = some b then (rdM b, 0) else (zM, 2)) := Lib.hid rfl
  have hel := rdM_len b
  have hhe := rdM_he hb
  have HRG := Lib.hid (fun bs (h : mBytes (rdM b) = some bs) => mBytes_range h)
  clear hn hb
  obtain ⟨r, hr0⟩ : ∃ b, w.heap.size = b := ⟨_, rfl⟩
  obtain ⟨w0, hw0⟩ : ∃ W, w.alloc (.cells #[.int .i64 0, .int .i64 0, .int .i64 0, .slice none 0 0, .int .i64 0, .int .i64 0, .int .i64 0, .int .i64 0, .int .i64 0] 26) = W := ⟨_, rfl⟩
  have hB : Blk w0 r 26 [.int .i64 0, .int .i64 0, .int .i64 0, .slice none 0 0, .int .i64 0, .int .i64 0, .int .i64 0, .int .i64 0, .int .i64 0] := by rw [← hw0, ← hr0]; exact Blk.new _ _ [.int .i64 0, .int .i64 0, .int .i64 0, .slice none 0 0, .int .i64 0, .int .i64 0, .int .i64 0, .int .i64 0, .int .i64 0]
  have hm0 : Mod (fun _ => False) w w0 := by rw [← hw0]; exact Mod.alloc _ _ _
  have HR := Lib.hid (hr.keep hm0 (fun _ _ e => e))
  have HQ := Lib.hid hB
  have HM0 := Lib.hid hm0
  have hrw : w.heap.size ≤ r := by omega
  clear hB hm0 hr
  go_enter Try.func12, Try.ntmps12
  go_upto_region 1 with fail
  try rw [hw0]
  try rw [hr0]
  clear hw0 hr0
  go_wp2_with fail
  refine (mread_any w0 a n c b HN.out HR.out HB.out (by omega)).mono ?_
  rintro e w2 ⟨a2, c2, rfl, hF2, hm2⟩
  obtain ⟨g, hg⟩ : ∃ g, rdM b = g := ⟨_, rfl⟩
  rw [hg] at hF2 hel hhe HDF HRG ⊢
  clear hg
  obtain ⟨mk, mp, md, ed, mw, mc, me, mf, ml⟩ := g
  replace hF2 : World.ownsRow w2 w0.heap.size 3 1 (.slice a2 ed.length c2) ed.length (ed.map (Value.int .i64)) := hF2
  replace hel : ed.length ≤ b.length := hel
  replace hhe : -1 ≤ me ∧ me ≤ 65535 := hhe
  rw [HN.out] at hel
  unfold msgV
  simp only
  obtain ⟨m2, hmm2⟩ : ∃ x, ed.length = x := ⟨_, rfl⟩
  rw [hmm2] at hF2 hel ⊢
  have HHE := Lib.hid hhe
  have hap : ∀ k, Value.ownBlock (.slice a2 m2 c2) = some k → k ≠ r := fun k hk => by have h1 := (hF2.lt k hk).1; have h2 := HQ.out.lt; omega
  have HAP := Lib.hid hap
  have HM2L := Lib.hid hmm2
  clear hap hmm2 hhe
  go_upto_region 2 with fail
  obtain ⟨gb, hgb⟩ : ∃ b, w2.heap.size = b := ⟨_, rfl⟩
  obtain ⟨w3, hw3⟩ : ∃ W, w2.alloc (.cells #[.int .i64 mk, .int .i64 mp, .int .i64 md, .slice a2 m2 c2, .int .i64 mw, .int .i64 mc, .int .i64 me, .int .i64 mf, .int .i64 ml] 26) = W := ⟨_, rfl⟩
  have hm3 : Mod (fun _ => False) w2 w3 := by rw [← hw3]; exact Mod.alloc _ _ _
  have hB3 : Blk w3 gb 26 [.int .i64 mk, .int .i64 mp, .int .i64 md, .slice a2 m2 c2, .int .i64 mw, .int .i64 mc, .int .i64 me, .int .i64 mf, .int .i64 ml] := by rw [← hw3, ← hgb]; exact Blk.new _ _ [.int .i64 mk, .int .i64 mp, .int .i64 md, .slice a2 m2 c2, .int .i64 mw, .int .i64 mc, .int .i64 me, .int .i64 mf, .int .i64 ml]
  rw [hw3, hgb]
  clear hw3 hgb
  have hm23 := hm2.of2 hm3
  have HQ3 := Lib.hid (HQ.out.keep hm23 (fun e => e))
  have HB3 := Lib.hid hB3
  have HM3 := Lib.hid (HM0.out.of2 hm23)
  have HRB3 := Lib.hid (HR.out.keep hm23 (fun _ _ e => e))
  have HOW := Lib.hid (Own.base (Own.keep hF2 hm3 (fun _ _ e => e)) HM0.out.size)
  clear hm2 hm3 hm23 hB3 hF2 HQ HM0 HR
  have hbk := HB3.out
  have q0 := hbk.cell 0 rfl
  have q1 := hbk.cell 1 rfl
  have q2 := hbk.cell 2 rfl
  have q3 := hbk.cell 3 rfl
  have q4 := hbk.cell 4 rfl
  have q5 := hbk.cell 5 rfl
  have q6 := hbk.cell 6 rfl
  have q7 := hbk.cell 7 rfl
  have q8 := hbk.cell 8 rfl
  have lq := hbk.lt
  clear hbk
  have hec := mencode_any w3 ⟨mk, mp, md, ed, mw, mc, me, mf, ml⟩ a2 m2 c2 HM2L.out (Rd.ofOwn HOW.out) (by omega) ⟨by have := HHE.out.1; simp only; omega, by have := HHE.out.2; simp only; omega⟩
  unfold msgV at hec
  simp only at hec
  have HEC := Lib.hid hec
  clear hec
  go_wp2_with fail
  refine HEC.out.mono ?_
  clear HEC
  rintro e w4 ⟨a4, c4, rfl, hF4, hm4⟩
  have HQ4 := Lib.hid (HQ3.out.keep hm4 (fun e => e))
  have HB4 := Lib.hid (HB3.out.keep hm4 (fun e => e))
  have HM4 := Lib.hid (HM3.out.of2 hm4)
  have HRB4 := Lib.hid (HRB3.out.keep hm4 (fun _ _ e => e))
  have HOW4 := Lib.hid (Own.keep HOW.out hm4 (fun _ _ e => e))
  clear hm4 HQ3 HB3 HM3 HRB3 HOW q0 q1 q2 q3 q4 q5 q6 q7 q8 lq
  obtain ⟨en, hen⟩ : ∃ x, mBytes ⟨mk, mp, md, ed, mw, mc, me, mf, ml⟩ = x := ⟨_, rfl⟩
  rw [hen] at hF4 HDF HRG ⊢
  clear hen
  cases en with
  | none =>
    have HD := Lib.hid (HDF.out.trans (if_neg (by simp)))
    clear HDF HRG hF4
    simp only [Option.isNone_none, if_true]
    have hbk := HQ4.out
    have z0 := hbk.cell 0 rfl
    have z1 := hbk.cell 1 rfl
    have z2 := hbk.cell 2 rfl
    have z3 := hbk.cell 3 rfl
    have z4 := hbk.cell 4 rfl
    have z5 := hbk.cell 5 rfl
    have z6 := hbk.cell 6 rfl
    have z7 := hbk.cell 7 rfl
    have z8 := hbk.cell 8 rfl
    have f0 := hbk.free 0
    have f1 := hbk.free 1
    have f2 := hbk.free 2
    have f3 := hbk.free 3
    have f4 := hbk.free 4
    have f5 := hbk.free 5
    have f6 := hbk.free 6
    have f7 := hbk.free 7
    have f8 := hbk.free 8
    have lz := hbk.lt
    clear hbk
    go_wp2_with fail
    have b2 := (((((((((HQ4.out.set 0 (.int .i64 0)).set 1 (.int .i64 0)).set 2 (.int .i64 0)).set 3 (.slice none 0 0)).set 4 (.int .i64 0)).set 5 (.int .i64 0)).set 6 (.int .i64 0)).set 7 (.int .i64 0)).set 8 (.int .i64 0))
    have k2 := Mod.set9 w4 r (.int .i64 0) (.int .i64 0) (.int .i64 0) (.slice none 0 0) (.int .i64 0) (.int .i64 0) (.int .i64 0) (.int .i64 0) (.int .i64 0)
    (try simp only [Exit.inBlock, Exit.then])
    refine bodyPost_ret (results_row_tmp rfl _ _ r 26 #[.int .i64 0, .int .i64 0, .int .i64 0, .slice none 0 0, .int .i64 0, .int .i64 0, .int .i64 0, .int .i64 0, .int .i64 0] (0, 0) _ rfl b2 Try.underlying26 rfl (by kernel_rfl)) rfl ?_
    exact ⟨none, 0, by rw [HD.out]; rfl, by rw [HD.out]; exact World.ownsRow_nil _ _ _ _, HM4.out.old k2 (fun i hi => by rw [hi]; exact hrw)⟩
  | some bs =>
    have HRX := Lib.hid (HRG.out bs rfl)
    clear HRG
    obtain ⟨L, hL⟩ : ∃ x, bs.length = x := ⟨_, rfl⟩
    have hrd4 : Rd w4 1 (.slice a4 L c4) L (bs.map (Value.int .u8)) := by have h := Rd.ofOwn hF4; rw [show ((some bs).getD []) = bs from rfl, hL] at h; exact h
    have HEQ := Lib.hid (equal_any w4 a4 L c4 bs hL hrd4 HRX.out a n c b HN.out HRB4.out HB.out)
    rw [show ((some bs).getD []).length = L from hL]
    simp only [Option.isNone_some, Bool.false_eq_true, if_false]
    clear hrd4 hL hF4
    go_wp2_with fail
    refine HEQ.out.mono ?_
    rintro e w' ⟨rfl, rfl⟩
    clear HEQ
    by_cases hq : bs = b
    case neg =>
      rw [decide_eq_false hq]
      have HD := Lib.hid (HDF.out.trans (if_neg (fun h => hq (Option.some.inj h))))
      clear hq HDF
      have hbk := HQ4.out
      have z0 := hbk.cell 0 rfl
      have z1 := hbk.cell 1 rfl
      have z2 := hbk.cell 2 rfl
      have z3 := hbk.cell 3 rfl
      have z4 := hbk.cell 4 rfl
      have z5 := hbk.cell 5 rfl
      have z6 := hbk.cell 6 rfl
      have z7 := hbk.cell 7 rfl
      have z8 := hbk.cell 8 rfl
      have f0 := hbk.free 0
      have f1 := hbk.free 1
      have f2 := hbk.free 2
      have f3 := hbk.free 3
      have f4 := hbk.free 4
      have f5 := hbk.free 5
      have f6 := hbk.free 6
      have f7 := hbk.free 7
      have f8 := hbk.free 8
      have lz := hbk.lt
      clear hbk
      go_wp2_with fail
      have b2 := (((((((((HQ4.out.set 0 (.int .i64 0)).set 1 (.int .i64 0)).set 2 (.int .i64 0)).set 3 (.slice none 0 0)).set 4 (.int .i64 0)).set 5 (.int .i64 0)).set 6 (.int .i64 0)).set 7 (.int .i64 0)).set 8 (.int .i64 0))
      have k2 := Mod.set9 w4 r (.int .i64 0) (.int .i64 0) (.int .i64 0) (.slice none 0 0) (.int .i64 0) (.int .i64 0) (.int .i64 0) (.int .i64 0) (.int .i64 0)
      (try simp only [Exit.inBlock, Exit.then])
      refine bodyPost_ret (results_row_tmp rfl _ _ r 26 #[.int .i64 0, .int .i64 0, .int .i64 0, .slice none 0 0, .int .i64 0, .int .i64 0, .int .i64 0, .int .i64 0, .int .i64 0] (0, 0) _ rfl b2 Try.underlying26 rfl (by kernel_rfl)) rfl ?_
      exact ⟨none, 0, by rw [HD.out]; rfl, by rw [HD.out]; exact World.ownsRow_nil _ _ _ _, HM4.out.old k2 (fun i hi => by rw [hi]; exact hrw)⟩
    case pos =>
      rw [decide_eq_true hq]
      have HD := Lib.hid (HDF.out.trans (if_pos (by rw [hq])))
      clear hq HDF
      have hbk := HQ4.out
      have z0 := hbk.cell 0 rfl
      have z1 := hbk.cell 1 rfl
      have z2 := hbk.cell 2 rfl
      have z3 := hbk.cell 3 rfl
      have z4 := hbk.cell 4 rfl
      have z5 := hbk.cell 5 rfl
      have z6 := hbk.cell 6 rfl
      have z7 := hbk.cell 7 rfl
      have z8 := hbk.cell 8 rfl
      have f0 := hbk.free 0
      have f1 := hbk.free 1
      have f2 := hbk.free 2
      have f3 := hbk.free 3
      have f4 := hbk.free 4
      have f5 := hbk.free 5
      have f6 := hbk.free 6
      have f7 := hbk.free 7
      have f8 := hbk.free 8
      have lz := hbk.lt
      clear hbk
      have hbk := HB4.out
      have q0 := hbk.cell 0 rfl
      have q1 := hbk.cell 1 rfl
      have q2 := hbk.cell 2 rfl
      have q3 := hbk.cell 3 rfl
      have q4 := hbk.cell 4 rfl
      have q5 := hbk.cell 5 rfl
      have q6 := hbk.cell 6 rfl
      have q7 := hbk.cell 7 rfl
      have q8 := hbk.cell 8 rfl
      have lq := hbk.lt
      clear hbk
      go_wp2_with fail
      have b2 := (((((((((HQ4.out.set 0 (.int .i64 mk)).set 1 (.int .i64 mp)).set 2 (.int .i64 md)).set 3 (.slice a2 m2 c2)).set 4 (.int .i64 mw)).set 5 (.int .i64 mc)).set 6 (.int .i64 me)).set 7 (.int .i64 mf)).set 8 (.int .i64 ml))
      have k2 := Mod.set9 w4 r (.int .i64 mk) (.int .i64 mp) (.int .i64 md) (.slice a2 m2 c2) (.int .i64 mw) (.int .i64 mc) (.int .i64 me) (.int .i64 mf) (.int .i64 ml)
      (try simp only [Exit.inBlock, Exit.then])
      refine bodyPost_ret (results_row_tmp rfl _ _ r 26 #[.int .i64 mk, .int .i64 mp, .int .i64 md, .slice a2 m2 c2, .int .i64 mw, .int .i64 mc, .int .i64 me, .int .i64 mf, .int .i64 ml] (0, 0) _ rfl b2 Try.underlying26 rfl (by kernel_rfl)) rfl ?_
      have hz := HM4.out.old k2 (fun i hi => by rw [hi]; exact hrw)
      have hm2l := HM2L.out
      subst hm2l
      refine ⟨a2, c2, by rw [HD.out]; rfl, ?_, hz⟩
      rw [HD.out]
      exact Own.keep HOW4.out k2 (fun k hk e => HAP.out k hk e)
end Go.Proofs.Ytabfmnlpipbegaa
