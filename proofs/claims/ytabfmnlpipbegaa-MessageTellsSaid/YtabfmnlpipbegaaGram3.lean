/- gram.Decode by contract. -/
import Derived.Test.YtabfmnlpipbegaaGram2
import Derived.Test.YtabfmnlpipbegaaBEq
import Derived.Deep.DeepCutAuto
import Derived.Deep.CutBlock
namespace Go.Proofs.Ytabfmnlpipbegaa
open Go.RowKit Mile
set_option maxRecDepth 100000
theorem results_row_tmp {P : Program} {fn : Func} {p u : Tmp} {ty : TypeId} (h : fn.results = #[.cell p ty, .tmp u]) (tmps : Array Value) (w : World) (g : Nat) (t : TypeId) (cs : Array Value) (fr : Nat × Nat) (d : TypeDesc)
    (hp : tmps.getD p undef = .pointer (some ⟨g, 0, none⟩)) (hg : w.heap[g]? = some (.cells cs t fr))
    (hu : P.underlying ty = some d) (hd : (match d with | .struct _ | .array _ _ => true | _ => false) = true) (hi : (P.info? ty).map (·.size) = some cs.size) :
    (results fn tmps).run P w = .ok (.tuple #[.agg cs, tmps.getD u undef]) w := by
  rw [results_cell_tmp h, hp]
  simp [asAddr, run_loadVar_row w g t ty cs fr d hg hu hd hi]
instance (kind : Int) (b : List Int) : Decidable (doneG kind b) := by unfold doneG; infer_instance
/-- What bytes are read as. -/
def decG (b : List Int) : GrD × Int :=
  if (unS b).2 = 0 then (if doneG (unS b).1.1 (unS b).1.2 then (pG2 (unS b).1.1 (unS b).1.2, 0) else (zG, 2)) else (zG, (unS b).2)
theorem dec_yes {b : List Int} (hb : ∀ x ∈ b, 0 ≤ x ∧ x < 256) (h0 : (unS b).2 = 0) (h : encG (pG2 (unS b).1.1 (unS b).1.2) = some b) : decG b = (pG2 (unS b).1.1 (unS b).1.2, 0) := by
  obtain ⟨h1, h2, h3⟩ := unS_frame hb h0
  have hbd : ∀ x ∈ (unS b).1.2, 0 ≤ x ∧ x < 256 := fun x hx => hb x (by rw [h1]; unfold frL; rw [hd_form]; simp [hx])
  have := (enc_iff h3 h2 hbd).1 (by rw [h]; exact congrArg some h1)
  unfold decG
  rw [if_pos h0, if_pos this]
theorem dec_no {b : List Int} (hb : ∀ x ∈ b, 0 ≤ x ∧ x < 256) (h0 : (unS b).2 = 0) (h : encG (pG2 (unS b).1.1 (unS b).1.2) ≠ some b) : decG b = (zG, 2) := by
  obtain ⟨h1, h2, h3⟩ := unS_frame hb h0
  have hbd : ∀ x ∈ (unS b).1.2, 0 ≤ x ∧ x < 256 := fun x hx => hb x (by rw [h1]; unfold frL; rw [hd_form]; simp [hx])
  unfold decG
  rw [if_pos h0, if_neg (fun k => h (by rw [(enc_iff h3 h2 hbd).2 k]; exact congrArg some h1.symm))]
theorem unS_range {b : List Int} (hb : ∀ x ∈ b, 0 ≤ x ∧ x < 256) : ∀ x ∈ (unS b).1.2, 0 ≤ x ∧ x < 256 := by
  intro x hx
  unfold unS at hx
  split at hx
  · split at hx
    · split at hx
      · exact hb x (List.mem_of_mem_drop (List.mem_of_mem_take hx))
      · cases hx
    · cases hx
  · cases hx
theorem pG2_sub {kind : Int} {b : List Int} : ∀ x ∈ (pG2 kind b).body, x ∈ b := by
  intro x hx
  unfold pG2 at hx
  split at hx
  · have h1 : x ∈ (rS3 b).getD [] := by
      replace hx : x ∈ (takeS (((rS3 b).getD []).length : Int) (rS3 b)).1 := hx
      unfold takeS at hx
      split at hx
      · exact List.mem_of_mem_take hx
      · cases hx
    have h2 : x ∈ (rS2 b).getD [] := numR_sub (size := 4) x h1
    have h3 : x ∈ (rS1 b).getD [] := numR_sub (size := 4) x h2
    exact numR_sub (size := 4) (s := some b) x h3
  · split at hx
    · cases hx
    · split at hx
      · cases hx
      · cases hx
theorem pG2_blen {kind : Int} {b : List Int} : (pG2 kind b).body.length ≤ b.length := by
  unfold pG2
  split
  · have h1 : ((rS3 b).getD []).length ≤ b.length := by
      have a1 := @numR_len 4 (some b)
      have a2 := @numR_len 4 (rS1 b)
      have a3 := @numR_len 4 (rS2 b)
      exact Nat.le_trans a3 (Nat.le_trans a2 a1)
    show (takeS (((rS3 b).getD []).length : Int) (rS3 b)).1.length ≤ _
    unfold takeS
    split
    · rw [List.length_take]; omega
    · simp
  · split
    · simp
    · split
      · simp
      · simp
theorem encG_range {g : GrD} (hb : ∀ x ∈ g.body, 0 ≤ x ∧ x < 256) {bs : List Int} (h : encG g = some bs) : ∀ x ∈ bs, 0 ≤ x ∧ x < 256 := by
  unfold encG at h
  cases hg : gBody g with
  | none => rw [hg] at h; cases h
  | some y =>
    rw [hg] at h
    replace h : wrapS g.kind y = some bs := h
    unfold wrapS at h
    split at h
    · rename_i hc
      have e := Option.some.inj h
      subst e
      refine fr_range fun x hx => ?_
      rw [hd_form] at hx
      have hy := gBody_range hb hg
      simp only [List.mem_cons] at hx
      rcases hx with rfl | rfl | rfl | rfl | rfl | hx
      · omega
      · omega
      · exact hc.1
      · omega
      · omega
      · exact hy x hx
    · cases h
/-- What Decode tells. -/
def GDecP (b : List Int) (w : World) (e : Ending) (w' : World) : Prop :=
  ∃ a c, e = .returned (.tuple #[gramV (decG b).1 a (decG b).1.body.length c, .int .i64 (decG b).2]) ∧ Fresh w' w.heap.size (.slice a (decG b).1.body.length c) (decG b).1.body ∧ Mod (fun _ => False) w w'
set_option maxHeartbeats 16000000 in
theorem gdecode_any (w : World) (a : Option Addr) (n c : Nat) (b : List Int) (hn : b.length = n) (hr : Rd w 1 (.slice a n c) n (b.map (Value.int .u8))) (hb : ∀ x ∈ b, 0 ≤ x ∧ x < 256) (hnb : n ≤ 100000) :
    Calls Try.prog 22 #[.slice a n c] w (GDecP b w) := by
  have HN := Lib.hid hn
  have HB := Lib.hid hb
  clear hn hb
  obtain ⟨r, hr0⟩ : ∃ b, w.heap.size = b := ⟨_, rfl⟩
  obtain ⟨w0, hw0⟩ : ∃ W, w.alloc (.cells #[.int .i64 0, .int .i64 0, .int .i64 0, .int .i64 0, .int .i64 0, .slice none 0 0] 44) = W := ⟨_, rfl⟩
  have hB : Blk w0 r 44 [.int .i64 0, .int .i64 0, .int .i64 0, .int .i64 0, .int .i64 0, .slice none 0 0] := by rw [← hw0, ← hr0]; exact Blk.new _ _ [.int .i64 0, .int .i64 0, .int .i64 0, .int .i64 0, .int .i64 0, .slice none 0 0]
  have hm0 : Mod (fun _ => False) w w0 := by rw [← hw0]; exact Mod.alloc _ _ _
  have HR := Lib.hid (hr.keep hm0 (fun _ _ e => e))
  have HQ := Lib.hid hB
  have HM0 := Lib.hid hm0
  have hrw : w.heap.size ≤ r := by omega
  clear hB hm0 hr
  go_enter Try.func22, Try.ntmps22
  go_upto_region 1 with fail
  try rw [hw0]
  try rw [hr0]
  clear hw0 hr0
  go_wp2_with fail
  refine (unwrap_any w0 a n c b HN.out HR.out HB.out (by omega)).mono ?_
  rintro e w1 ⟨a1, c1, rfl, hF, hm1⟩
  have hdy := dec_yes HB.out
  have hdn := dec_no HB.out
  have hdz : (unS b).2 ≠ 0 → decG b = (zG, (unS b).2) := fun h => by unfold decG; rw [if_neg h]
  have hbr := unS_range HB.out
  have hbl : (unS b).2 = 0 → (unS b).1.2.length ≤ 2000 := fun h => (unS_frame HB.out h).2.1
  obtain ⟨K, hK⟩ : ∃ x, (unS b).1.1 = x := ⟨_, rfl⟩
  obtain ⟨BD, hBD⟩ : ∃ x, (unS b).1.2 = x := ⟨_, rfl⟩
  obtain ⟨er, hER⟩ : ∃ x, (unS b).2 = x := ⟨_, rfl⟩
  rw [hBD] at hF hbr
  rw [hK, hBD, hER] at hdy hdn ⊢
  rw [hER] at hdz hbl
  rw [hBD] at hbl
  obtain ⟨m, hmm⟩ : ∃ x, BD.length = x := ⟨_, rfl⟩
  have hrd1 : Rd w1 1 (.slice a1 m c1) m (BD.map (Value.int .u8)) := by have h := Rd.ofOwn hF; rw [hmm] at h; exact h
  rw [hmm]
  rw [hmm] at hbl
  have HQ1 := Lib.hid (HQ.out.keep hm1 (fun e => e))
  have HM1 := Lib.hid (HM0.out.of2 hm1)
  have HRB := Lib.hid (HR.out.keep hm1 (fun _ _ e => e))
  have HRD := Lib.hid hrd1
  have HMM := Lib.hid hmm
  have HBR := Lib.hid hbr
  have HDY := Lib.hid hdy
  have HDN := Lib.hid hdn
  clear hrd1 hmm hbr hdy hdn hF hm1 HQ HM0 HR hK hBD hER
  by_cases h0 : er = 0
  case neg =>
    have z0 : (er != 0) = true := by simpa using h0
    have HD := Lib.hid (hdz h0)
    clear hdz hbl h0
    have hbk := HQ1.out
    have z0 := hbk.cell 0 rfl
    have z1 := hbk.cell 1 rfl
    have z2 := hbk.cell 2 rfl
    have z3 := hbk.cell 3 rfl
    have z4 := hbk.cell 4 rfl
    have z5 := hbk.cell 5 rfl
    have f0 := hbk.free 0
    have f1 := hbk.free 1
    have f2 := hbk.free 2
    have f3 := hbk.free 3
    have f4 := hbk.free 4
    have f5 := hbk.free 5
    have lz := hbk.lt
    clear hbk
    go_wp2_with fail
    have b2 := ((((((HQ1.out.set 0 (.int .i64 0)).set 1 (.int .i64 0)).set 2 (.int .i64 0)).set 3 (.int .i64 0)).set 4 (.int .i64 0)).set 5 (.slice none 0 0))
    have k2 := Mod.set6 w1 r (.int .i64 0) (.int .i64 0) (.int .i64 0) (.int .i64 0) (.int .i64 0) (.slice none 0 0)
    (try simp only [Exit.inBlock, Exit.then])
    refine bodyPost_ret (results_row_tmp rfl _ _ r 44 #[.int .i64 0, .int .i64 0, .int .i64 0, .int .i64 0, .int .i64 0, .slice none 0 0] (0, 0) _ rfl b2 Try.underlying44 rfl (by kernel_rfl)) rfl ?_
    exact ⟨none, 0, by rw [HD.out]; rfl, by rw [HD.out]; exact World.ownsRow_nil _ _ _ _, HM1.out.old k2 (fun i hi => by rw [hi]; exact hrw)⟩
  case pos =>
    have hm2k := hbl h0
    subst h0
    clear hdz hbl
    go_wp2_with fail
    refine (gread_any w1 K a1 m c1 BD HMM.out HRD.out HBR.out (by omega)).mono ?_
    rintro e w2 ⟨a2, c2, rfl, hF2, hm2⟩
    have hdy := HDY.out (by first | trivial | rfl)
    have hdn := HDN.out (by first | trivial | rfl)
    have hsub := @pG2_sub K BD
    have hbl := @pG2_blen K BD
    obtain ⟨g, hg⟩ : ∃ g, pG2 K BD = g := ⟨_, rfl⟩
    rw [hg] at hF2 hdy hdn hsub hbl ⊢
    clear hg HDY HDN
    obtain ⟨gc, gk, gs, ga, gd, bo⟩ := g
    replace hF2 : Fresh w2 w1.heap.size (.slice a2 bo.length c2) bo := hF2
    replace hsub : ∀ x ∈ bo, x ∈ BD := hsub
    replace hbl : bo.length ≤ BD.length := hbl
    rw [HMM.out] at hbl
    unfold gramV
    simp only
    obtain ⟨m2, hmm2⟩ : ∃ x, bo.length = x := ⟨_, rfl⟩
    have hown : w2.ownsRow w1.heap.size 5 1 (.slice a2 m2 c2) m2 (bo.map (Value.int .u8)) := by have h := hF2; unfold Fresh at h; rw [hmm2] at h; exact h
    rw [hmm2] at hbl ⊢
    clear hF2
    have hap : ∀ k, Value.ownBlock (.slice a2 m2 c2) = some k → k ≠ r := fun k hk => by have h1 := (hown.lt k hk).1; have h2 := HQ1.out.lt; omega
    have HAP := Lib.hid hap
    have HBO := Lib.hid (fun x hx => HBR.out x (hsub x hx))
    have HM2L := Lib.hid hmm2
    clear hap hsub hmm2
    go_upto_region 5 with fail
    obtain ⟨gb, hgb⟩ : ∃ b, w2.heap.size = b := ⟨_, rfl⟩
    obtain ⟨w3, hw3⟩ : ∃ W, w2.alloc (.cells #[.int .i64 gc, .int .i64 gk, .int .i64 gs, .int .i64 ga, .int .i64 gd, .slice a2 m2 c2] 44) = W := ⟨_, rfl⟩
    have hm3 : Mod (fun _ => False) w2 w3 := by rw [← hw3]; exact Mod.alloc _ _ _
    have hB3 : Blk w3 gb 44 [.int .i64 gc, .int .i64 gk, .int .i64 gs, .int .i64 ga, .int .i64 gd, .slice a2 m2 c2] := by rw [← hw3, ← hgb]; exact Blk.new _ _ [.int .i64 gc, .int .i64 gk, .int .i64 gs, .int .i64 ga, .int .i64 gd, .slice a2 m2 c2]
    rw [hw3, hgb]
    clear hw3 hgb
    have hm23 := hm2.of2 hm3
    have HQ3 := Lib.hid (HQ1.out.keep hm23 (fun e => e))
    have HB3 := Lib.hid hB3
    have HM3 := Lib.hid (HM1.out.of2 hm23)
    have HRB3 := Lib.hid (HRB.out.keep hm23 (fun _ _ e => e))
    have HOW := Lib.hid (Own.base (Own.keep hown hm3 (fun _ _ e => e)) HM1.out.size)
    have HDY := Lib.hid hdy
    have HDN := Lib.hid hdn
    clear hm2 hm3 hm23 hB3 hown hdy hdn HQ1 HRB HRD
    have hbk := HB3.out
    have q0 := hbk.cell 0 rfl
    have q1 := hbk.cell 1 rfl
    have q2 := hbk.cell 2 rfl
    have q3 := hbk.cell 3 rfl
    have q4 := hbk.cell 4 rfl
    have q5 := hbk.cell 5 rfl
    have lq := hbk.lt
    clear hbk
    go_wp2_with fail
    refine (gencode_any w3 ⟨gc, gk, gs, ga, gd, bo⟩ a2 m2 c2 HM2L.out (Rd.ofOwn HOW.out) HBO.out (by omega)).mono ?_
    rintro e w4 ⟨v4, rfl, hF4, hm4, a4, c4, rfl⟩
    have HQ4 := Lib.hid (HQ3.out.keep hm4 (fun e => e))
    have HB4 := Lib.hid (HB3.out.keep hm4 (fun e => e))
    have HM4 := Lib.hid (HM3.out.of2 hm4)
    have HRB4 := Lib.hid (HRB3.out.keep hm4 (fun _ _ e => e))
    have HOW4 := Lib.hid (Own.keep HOW.out hm4 (fun _ _ e => e))
    clear hm4 HQ3 HB3 HM3 HRB3 HOW q0 q1 q2 q3 q4 q5 lq
    have her := fun bs => @encG_range ⟨gc, gk, gs, ga, gd, bo⟩ HBO.out bs
    have hdy := HDY.out
    have hdn := HDN.out
    clear HDY HDN
    obtain ⟨en, hen⟩ : ∃ x, encG ⟨gc, gk, gs, ga, gd, bo⟩ = x := ⟨_, rfl⟩
    rw [hen] at hF4 hdy hdn her ⊢
    clear hen
    cases en with
    | none =>
      have HD := Lib.hid (hdn (by simp))
      clear hdy hdn her hF4
      simp only [Option.isNone_none, if_true]
      have hbk := HQ4.out
      have z0 := hbk.cell 0 rfl
      have z1 := hbk.cell 1 rfl
      have z2 := hbk.cell 2 rfl
      have z3 := hbk.cell 3 rfl
      have z4 := hbk.cell 4 rfl
      have z5 := hbk.cell 5 rfl
      have f0 := hbk.free 0
      have f1 := hbk.free 1
      have f2 := hbk.free 2
      have f3 := hbk.free 3
      have f4 := hbk.free 4
      have f5 := hbk.free 5
      have lz := hbk.lt
      clear hbk
      go_wp2_with fail
      have b2 := ((((((HQ4.out.set 0 (.int .i64 0)).set 1 (.int .i64 0)).set 2 (.int .i64 0)).set 3 (.int .i64 0)).set 4 (.int .i64 0)).set 5 (.slice none 0 0))
      have k2 := Mod.set6 w4 r (.int .i64 0) (.int .i64 0) (.int .i64 0) (.int .i64 0) (.int .i64 0) (.slice none 0 0)
      (try simp only [Exit.inBlock, Exit.then])
      refine bodyPost_ret (results_row_tmp rfl _ _ r 44 #[.int .i64 0, .int .i64 0, .int .i64 0, .int .i64 0, .int .i64 0, .slice none 0 0] (0, 0) _ rfl b2 Try.underlying44 rfl (by kernel_rfl)) rfl ?_
      exact ⟨none, 0, by rw [HD.out]; rfl, by rw [HD.out]; exact World.ownsRow_nil _ _ _ _, HM4.out.old k2 (fun i hi => by rw [hi]; exact hrw)⟩
    | some bs =>
      have HRG := Lib.hid (her bs rfl)
      have HDY := Lib.hid hdy
      have HDN := Lib.hid hdn
      clear her hdy hdn
      obtain ⟨L, hL⟩ : ∃ x, bs.length = x := ⟨_, rfl⟩
      have hrd4 : Rd w4 1 (.slice a4 L c4) L (bs.map (Value.int .u8)) := by have h := Rd.ofOwn hF4; rw [show ((some bs).getD []) = bs from rfl, hL] at h; exact h
      have HEQ := Lib.hid (equal_any w4 a4 L c4 bs hL hrd4 HRG.out a n c b HN.out HRB4.out HB.out)
      rw [show ((some bs).getD []).length = L from hL]
      simp only [Option.isNone_some, Bool.false_eq_true, if_false]
      clear hrd4 hL hF4
      go_wp2_with fail
      refine HEQ.out.mono ?_
      rintro e w' ⟨rfl, rfl⟩
      clear HEQ
      by_cases hq : bs = b
      case neg =>
        rw [decide_eq_false hq]
        have HD := Lib.hid (HDN.out (fun h => hq (Option.some.inj h)))
        clear hq HDN HDY
        have hbk := HQ4.out
        have z0 := hbk.cell 0 rfl
        have z1 := hbk.cell 1 rfl
        have z2 := hbk.cell 2 rfl
        have z3 := hbk.cell 3 rfl
        have z4 := hbk.cell 4 rfl
        have z5 := hbk.cell 5 rfl
        have f0 := hbk.free 0
        have f1 := hbk.free 1
        have f2 := hbk.free 2
        have f3 := hbk.free 3
        have f4 := hbk.free 4
        have f5 := hbk.free 5
        have lz := hbk.lt
        clear hbk
        go_wp2_with fail
        have b2 := ((((((HQ4.out.set 0 (.int .i64 0)).set 1 (.int .i64 0)).set 2 (.int .i64 0)).set 3 (.int .i64 0)).set 4 (.int .i64 0)).set 5 (.slice none 0 0))
        have k2 := Mod.set6 w4 r (.int .i64 0) (.int .i64 0) (.int .i64 0) (.int .i64 0) (.int .i64 0) (.slice none 0 0)
        (try simp only [Exit.inBlock, Exit.then])
        refine bodyPost_ret (results_row_tmp rfl _ _ r 44 #[.int .i64 0, .int .i64 0, .int .i64 0, .int .i64 0, .int .i64 0, .slice none 0 0] (0, 0) _ rfl b2 Try.underlying44 rfl (by kernel_rfl)) rfl ?_
        exact ⟨none, 0, by rw [HD.out]; rfl, by rw [HD.out]; exact World.ownsRow_nil _ _ _ _, HM4.out.old k2 (fun i hi => by rw [hi]; exact hrw)⟩
      case pos =>
        rw [decide_eq_true hq]
        have HD := Lib.hid (HDY.out (by rw [hq]))
        clear hq HDN HDY
        have hbk := HQ4.out
        have z0 := hbk.cell 0 rfl
        have z1 := hbk.cell 1 rfl
        have z2 := hbk.cell 2 rfl
        have z3 := hbk.cell 3 rfl
        have z4 := hbk.cell 4 rfl
        have z5 := hbk.cell 5 rfl
        have f0 := hbk.free 0
        have f1 := hbk.free 1
        have f2 := hbk.free 2
        have f3 := hbk.free 3
        have f4 := hbk.free 4
        have f5 := hbk.free 5
        have lz := hbk.lt
        clear hbk
        have hbk := HB4.out
        have q0 := hbk.cell 0 rfl
        have q1 := hbk.cell 1 rfl
        have q2 := hbk.cell 2 rfl
        have q3 := hbk.cell 3 rfl
        have q4 := hbk.cell 4 rfl
        have q5 := hbk.cell 5 rfl
        have lq := hbk.lt
        clear hbk
        go_wp2_with fail
        have b2 := ((((((HQ4.out.set 0 (.int .i64 gc)).set 1 (.int .i64 gk)).set 2 (.int .i64 gs)).set 3 (.int .i64 ga)).set 4 (.int .i64 gd)).set 5 (.slice a2 m2 c2))
        have k2 := Mod.set6 w4 r (.int .i64 gc) (.int .i64 gk) (.int .i64 gs) (.int .i64 ga) (.int .i64 gd) (.slice a2 m2 c2)
        (try simp only [Exit.inBlock, Exit.then])
        refine bodyPost_ret (results_row_tmp rfl _ _ r 44 #[.int .i64 gc, .int .i64 gk, .int .i64 gs, .int .i64 ga, .int .i64 gd, .slice a2 m2 c2] (0, 0) _ rfl b2 Try.underlying44 rfl (by kernel_rfl)) rfl ?_
        have hz := HM4.out.old k2 (fun i hi => by rw [hi]; exact hrw)
        have hm2l := HM2L.out
        subst hm2l
        refine ⟨a2, c2, by rw [HD.out]; rfl, ?_, hz⟩
        rw [HD.out]
        exact Own.keep HOW4.out k2 (fun k hk e => HAP.out k hk e)
end Go.Proofs.Ytabfmnlpipbegaa
