/- gram.Encode by contract. -/
import Derived.Test.YtabfmnlpipbegaaGramP
import Derived.Test.YtabfmnlpipbegaaFr1
import Derived.Test.YtabfmnlpipbegaaEv
import Derived.Deep.DeepCutAuto
import Derived.Deep.CutBlock
namespace Go.Proofs.Ytabfmnlpipbegaa
open Go.RowKit Mile
set_option maxRecDepth 100000
theorem numsS_len (size : Int) (ns : List Int) (s : Option (List Int)) : ((numsS size ns s).getD []).length ≤ (s.getD []).length + 7 * ns.length := by
  cases s with
  | none => show ((none : Option (List Int)).getD []).length ≤ _; simp
  | some bs =>
    show ((if sizeOk size then numsL size.toNat bs ns else none).getD []).length ≤ _
    split
    · rename_i h
      cases hn : numsL size.toNat bs ns with
      | none => simp
      | some cs =>
        have := numsL_length _ _ _ _ hn
        have h7 : size.toNat ≤ 7 := by have := of_decide_eq_true h; omega
        have h8 := Nat.mul_le_mul_right ns.length h7
        simp; omega
    · simp
/-- Numbers in a row of the statement's own. -/
theorem nums_lit (wB W : World) (p : Nat) (s : Option (List Int)) (F : Nat → Prop) (h : WrSt wB W p s F) (size : Int) (xs : List Int) (n : Nat) (hn : xs.length = n) (hs : n ≤ 100) (hl : (s.getD []).length ≤ 100000) (b : Nat) (hb : W.heap.size = b) (W1 : World) (hW : W.alloc (.cells (xs.map (Value.int .i64)).toArray 3) = W1) :
    Calls Try.prog 25 #[.pointer (some ⟨p, 0, none⟩), .int .i64 size, .slice (some ⟨b, 0, none⟩) n n] W1 fun e w' => e = .returned (.pointer (some ⟨p, 0, none⟩)) ∧ ∃ F', WrSt wB w' p (numsS size xs s) F' := by
  subst hW hb
  have h1 := h.later (Mod.alloc (fun _ => False) W (.cells (xs.map (Value.int .i64)).toArray 3))
  refine (nums_any p _ s F h1.r size _ xs (by rw [hn]; exact Rd.lit _ (xs.map (Value.int .i64)) _ _ n rfl (by simpa using hn) (by omega)) (fun k hk hf => absurd hf (h.apart (v := .slice (some ⟨W.heap.size, 0, none⟩) n n) (by intro k hk; simp [Value.ownBlock] at hk; omega) k hk)) (by omega)).mono ?_
  rintro e w' ⟨he, F', hW, hA⟩
  exact ⟨he, F', h1.aft hW hA⟩
/-- What Encode tells. -/
def EncGP (g : GrD) (w : World) (e : Ending) (w' : World) : Prop :=
  ∃ v', e = .returned (.tuple #[v', .int .i64 (if (encG g).isNone then 1 else 0)]) ∧ Fresh w' w.heap.size v' ((encG g).getD []) ∧ Mod (fun _ => False) w w' ∧ ∃ a c, v' = .slice a ((encG g).getD []).length c
def gramV (g : GrD) (a : Option Addr) (n c : Nat) : Value := .agg #[.int .i64 g.conn, .int .i64 g.kind, .int .i64 g.seq, .int .i64 g.ack, .int .i64 g.code, .slice a n c]

theorem nums_range {size : Int} {ns : List Int} {s : Option (List Int)} {cs : List Int} (hs : ∀ bs, s = some bs → ∀ x ∈ bs, 0 ≤ x ∧ x < 256) (h : numsS size ns s = some cs) : ∀ x ∈ cs, 0 ≤ x ∧ x < 256 := by
  cases s with
  | none => cases h
  | some bs =>
    replace h : (if sizeOk size then numsL size.toNat bs ns else none) = some cs := h
    split at h
    · have key : ∀ (ns bs cs : List Int), (∀ x ∈ bs, 0 ≤ x ∧ x < 256) → numsL size.toNat bs ns = some cs → ∀ x ∈ cs, 0 ≤ x ∧ x < 256 := by
        intro ns
        induction ns with
        | nil => intro bs cs hb h; simp [numsL] at h; subst h; exact hb
        | cons y r ih =>
          intro bs cs hb h
          simp only [numsL] at h
          split at h
          · refine ih _ _ (fun x hx => ?_) h
            rcases List.mem_append.1 hx with e | e
            · exact hb x e
            · exact digs_range _ _ x e
          · cases h
      exact key ns bs cs (hs bs rfl) h
    · cases h
theorem gBody_len0 (g : GrD) : ((gBody g).getD []).length ≤ 30 + g.body.length := by
  have h1 := numsS_len 4 [g.conn] (some [])
  have h2 := numsS_len 4 [g.seq, g.ack] (numsS 4 [g.conn] (some []))
  have h3 := numsS_len 4 [g.ack] (numsS 4 [g.conn] (some []))
  have h4 := numsS_len 1 [g.code] (numsS 4 [g.conn] (some []))
  simp only [List.length_cons, List.length_nil] at h1 h2 h3 h4
  unfold gBody
  split
  · cases h : numsS 4 [g.seq, g.ack] (numsS 4 [g.conn] (some [])) with
    | none => simp
    | some y => rw [h] at h2; simp at h2 ⊢; simp at h1; omega
  · split
    · simp at h1; omega
    · split
      · simp at h1; omega
      · simp
theorem gBody_range {g : GrD} (hb : ∀ x ∈ g.body, 0 ≤ x ∧ x < 256) {b : List Int} (h : gBody g = some b) : ∀ x ∈ b, 0 ≤ x ∧ x < 256 := by
  have h0 : ∀ bs, numsS 4 [g.conn] (some []) = some bs → ∀ x ∈ bs, 0 ≤ x ∧ x < 256 := fun bs hbs => nums_range (fun bs h => by cases h; simp) hbs
  unfold gBody at h
  split at h
  · cases hy : numsS 4 [g.seq, g.ack] (numsS 4 [g.conn] (some [])) with
    | none => rw [hy] at h; cases h
    | some y =>
      rw [hy] at h
      simp at h
      subst h
      intro x hx
      rcases List.mem_append.1 hx with e | e
      · exact nums_range h0 hy x e
      · exact hb x e
  · split at h
    · exact nums_range h0 h
    · split at h
      · exact nums_range h0 h
      · cases h
set_option maxHeartbeats 16000000 in
theorem gencode_any (w : World) (g : GrD) (a : Option Addr) (n c : Nat) (hn : g.body.length = n) (hr : Rd w 1 (.slice a n c) n (g.body.map (Value.int .u8))) (hb : ∀ x ∈ g.body, 0 ≤ x ∧ x < 256) (hnb : n ≤ 2200) :
    Calls Try.prog 19 #[gramV g a n c] w (EncGP g w) := by
  obtain ⟨gc, gk, gs, ga, gd, bo⟩ := g
  replace hn : bo.length = n := hn
  replace hr : Rd w 1 (.slice a n c) n (bo.map (Value.int .u8)) := hr
  replace hb : ∀ x ∈ bo, 0 ≤ x ∧ x < 256 := hb
  unfold gramV
  simp only
  obtain ⟨bx, hbx⟩ : ∃ b, w.heap.size = b := ⟨_, rfl⟩
  obtain ⟨wB, hwB⟩ : ∃ W, w.alloc (.cells #[.int .i64 gc, .int .i64 gk, .int .i64 gs, .int .i64 ga, .int .i64 gd, .slice a n c] 44) = W := ⟨_, rfl⟩
  have hB : Blk wB bx 44 [.int .i64 gc, .int .i64 gk, .int .i64 gs, .int .i64 ga, .int .i64 gd, .slice a n c] := by rw [← hwB, ← hbx]; exact Blk.new _ _ [.int .i64 gc, .int .i64 gk, .int .i64 gs, .int .i64 ga, .int .i64 gd, .slice a n c]
  have hmB : Mod (fun _ => False) w wB := by rw [← hwB]; exact Mod.alloc _ _ _
  have HB := Lib.hid (Ev.blk hB)
  have HR := Lib.hid (Ev.rd (hr.keep hmB (fun _ _ e => e)))
  have HN := Lib.hid hn
  have HMB := Lib.hid hmB
  have HBY := Lib.hid hb
  clear hB hr hn hmB hb
  obtain ⟨p, hp⟩ : ∃ b, wB.heap.size = b := ⟨_, rfl⟩
  obtain ⟨w0, hw0⟩ : ∃ W, wB.alloc (.cells #[.slice none 0 0, .bool false] 59) = W := ⟨_, rfl⟩
  have h0 : WrSt wB w0 p (some []) (fun k => k = p) := by subst hw0 hp; exact ⟨Wr.new _ rfl, fun k e => by have h2 : k = _ := e; omega, Mod.alloc _ _ _⟩
  have H0 := Lib.hid h0
  clear h0
  obtain ⟨b1, hb1⟩ : ∃ b, w0.heap.size = b := ⟨_, rfl⟩
  obtain ⟨w1, hw1⟩ : ∃ W, w0.alloc (.cells #[.int .i64 gc] 3) = W := ⟨_, rfl⟩
  have HN1 := Lib.hid (nums_lit wB w0 p _ _ H0.out 4 [gc] 1 rfl (by decide) (by simp) b1 hb1 w1 hw1)
  go_enter Try.func19, Try.ntmps19
  go_upto_region 1 with fail
  try rw [hwB]
  try rw [hbx]
  clear hwB hbx
  have hbk := HB.out.at (H0.out.mod)
  have q0 := hbk.cell 0 rfl
  have q1 := hbk.cell 1 rfl
  have q2 := hbk.cell 2 rfl
  have q3 := hbk.cell 3 rfl
  have q4 := hbk.cell 4 rfl
  have q5 := hbk.cell 5 rfl
  have lb := hbk.lt
  clear hbk
  go_wp2_with fail
  refine HN1.out.mono ?_
  rintro e w2 ⟨rfl, F2, h2⟩
  have H2 := Lib.hid h2
  clear h2 HN1 hw1 hb1 hw0 hp q0 q1 q2 q3 q4 q5 lb
  have hbk := HB.out.at (H2.out.mod)
  have q0 := hbk.cell 0 rfl
  have q1 := hbk.cell 1 rfl
  have q2 := hbk.cell 2 rfl
  have q3 := hbk.cell 3 rfl
  have q4 := hbk.cell 4 rfl
  have q5 := hbk.cell 5 rfl
  have lb := hbk.lt
  clear hbk
  obtain ⟨s2, hs2⟩ : ∃ x, numsS 4 [gc] (some []) = x := ⟨_, rfl⟩
  have hl2 : (s2.getD []).length ≤ 7 := by rw [← hs2]; exact numsS_len 4 [gc] (some [])
  rw [hs2] at H2
  have HS2 := Lib.hid hs2
  clear hs2
  go_upto_block 0 with fail
  go_cut [14] (fun _ wx => ∃ F5, WrSt wB wx p (gBody ⟨gc, gk, gs, ga, gd, bo⟩) F5)
  case first =>
    by_cases k1 : gk = 1
    case pos =>
      subst k1
      obtain ⟨wd, hwd⟩ : ∃ W, World.drew w2 = W := ⟨_, rfl⟩
      have HD : Hid (WrSt wB wd p s2 F2) := Lib.hid (by rw [← hwd]; exact H2.out.later (Mod.drew _ _))
      obtain ⟨b3, hb3⟩ : ∃ b, wd.heap.size = b := ⟨_, rfl⟩
      obtain ⟨w3, hw3⟩ : ∃ W, wd.alloc (.cells #[.int .i64 gs, .int .i64 ga] 3) = W := ⟨_, rfl⟩
      have HN3 := Lib.hid (nums_lit wB wd p _ _ HD.out 4 [gs, ga] 2 rfl (by decide) (by omega) b3 hb3 w3 hw3)
      obtain ⟨s4, hs4⟩ : ∃ x, numsS 4 [gs, ga] s2 = x := ⟨_, rfl⟩
      have hl4 : (s4.getD []).length ≤ 21 := by rw [← hs4]; have := numsS_len 4 [gs, ga] s2; simp at this; omega
      rw [hs4] at HN3
      have HS4 := Lib.hid hs4
      clear hs4
      go_upto_region 5 with fail
      clear q0 q1 q2 q3 q4 q5 lb
      have hbk := HB.out.at (HD.out.mod)
      have q0 := hbk.cell 0 rfl
      have q1 := hbk.cell 1 rfl
      have q2 := hbk.cell 2 rfl
      have q3 := hbk.cell 3 rfl
      have q4 := hbk.cell 4 rfl
      have q5 := hbk.cell 5 rfl
      have lb := hbk.lt
      clear hbk
      have hbk3 := HB.out.at (show Mod (fun _ => False) wB w3 from by rw [← hw3]; exact HD.out.mod.thenAlloc _)
      have q53 := hbk3.cell 5 rfl
      clear hbk3
      go_region_law (first | (go_simp; go_at_call 25; refine HN3.out.mono ?_; rintro e w4 ⟨rfl, F4, h4⟩; have H4 := Lib.hid h4; clear h4; have hb4 := HB.out.at H4.out.mod; have q5 := hb4.cell 5 rfl; clear hb4) | (go_simp; go_at_call 33; refine (raw_any p _ s4 _ H4.out.r (.slice a n c) bo (by rw [HN.out]; exact HR.out.at H4.out.mod) (by have := HN.out; omega)).mono ?_; rintro e w5 ⟨rfl, F5, hW5, hA5⟩; have H5 := Lib.hid (H4.out.aft hW5 hA5); clear hW5 hA5))
      all_goals (go_wp2_with fail; go_meet; exact ⟨_, by unfold gBody; rw [if_pos rfl]; simp only; rw [HS2.out, HS4.out]; exact H5.out⟩)
    case neg =>
      have z1 : (gk == 1) = false := by rw [beq_eq_false_iff_ne]; exact k1
      have K1 := Lib.hid k1
      clear k1
      by_cases k2 : gk = 2
      case pos =>
        have z2 : (gk == 2) = true := by rw [k2]; rfl
        have K2 := Lib.hid k2
        clear k2
        obtain ⟨b3, hb3⟩ : ∃ b, w2.heap.size = b := ⟨_, rfl⟩
        obtain ⟨w3, hw3⟩ : ∃ W, w2.alloc (.cells #[.int .i64 ga] 3) = W := ⟨_, rfl⟩
        have HN3 := Lib.hid (nums_lit wB w2 p _ _ H2.out 4 [ga] 1 rfl (by decide) (by omega) b3 hb3 w3 hw3)
        go_wp2_with fail
        refine HN3.out.mono ?_
        rintro e w5 ⟨rfl, F5, h5⟩
        have H5 := Lib.hid h5
        clear h5 HN3 hw3 hb3
        go_wp2_with fail
        go_meet
        exact ⟨_, by unfold gBody; simp only; rw [if_neg K1.out, if_pos K2.out, HS2.out]; exact H5.out⟩
      case neg =>
        have z2 : (gk == 2) = false := by rw [beq_eq_false_iff_ne]; exact k2
        have K2 := Lib.hid k2
        clear k2
        by_cases k3 : gk = 3
        case pos =>
          have z3 : (gk == 3) = true := by rw [k3]; rfl
          have K3 := Lib.hid k3
          clear k3
          obtain ⟨b3, hb3⟩ : ∃ b, w2.heap.size = b := ⟨_, rfl⟩
          obtain ⟨w3, hw3⟩ : ∃ W, w2.alloc (.cells #[.int .i64 gd] 3) = W := ⟨_, rfl⟩
          have HN3 := Lib.hid (nums_lit wB w2 p _ _ H2.out 1 [gd] 1 rfl (by decide) (by omega) b3 hb3 w3 hw3)
          go_wp2_with fail
          refine HN3.out.mono ?_
          rintro e w5 ⟨rfl, F5, h5⟩
          have H5 := Lib.hid h5
          clear h5 HN3 hw3 hb3
          go_wp2_with fail
          go_meet
          exact ⟨_, by unfold gBody; simp only; rw [if_neg K1.out, if_neg K2.out, if_pos K3.out, HS2.out]; exact H5.out⟩
        case neg =>
          have z3 : (gk == 3) = false := by rw [beq_eq_false_iff_ne]; exact k3
          have K3 := Lib.hid k3
          clear k3
          have HG2 : Hid (encG ⟨gc, gk, gs, ga, gd, bo⟩ = none) := Lib.hid (by unfold encG gBody; simp only; rw [if_neg K1.out, if_neg K2.out, if_neg K3.out]; rfl)
          go_wp2_with fail
          go_ret2
          exact ⟨_, by rw [HG2.out]; rfl, by rw [HG2.out]; exact World.ownsRow_nil _ _ _ _, HMB.out.of2 H2.out.mod, none, 0, by rw [HG2.out]; rfl⟩
  case rest =>
    obtain ⟨F5, h5⟩ := hcut
    obtain ⟨s5, hs5⟩ : ∃ x, gBody ⟨gc, gk, gs, ga, gd, bo⟩ = x := ⟨_, rfl⟩
    have hl5 : (s5.getD []).length ≤ 3000 := by rw [← hs5]; have := gBody_len0 ⟨gc, gk, gs, ga, gd, bo⟩; have h2 := HN.out; simp only at this; omega
    rw [hs5] at h5
    have HS5 := Lib.hid hs5
    have H5 := Lib.hid h5
    clear hs5 h5
    clear q0 q1 q2 q3 q4 q5 lb
    have hbk := HB.out.at (H5.out.mod)
    have q0 := hbk.cell 0 rfl
    have q1 := hbk.cell 1 rfl
    have q2 := hbk.cell 2 rfl
    have q3 := hbk.cell 3 rfl
    have q4 := hbk.cell 4 rfl
    have q5 := hbk.cell 5 rfl
    have lb := hbk.lt
    clear hbk
    have HG : Hid (encG ⟨gc, gk, gs, ga, gd, bo⟩ = (s5).bind (wrapS gk)) := Lib.hid (by unfold encG; rw [show gBody ⟨gc, gk, gs, ga, gd, bo⟩ = s5 from HS5.out])
    go_wp2_with fail
    refine (bytes_any p wc s5 _ H5.out.r (by have := hl5; omega)).mono ?_
    rintro e w7 ⟨v7, rfl, hF7, hM7, a7, c7, rfl⟩
    have hmd7 := H5.out.mod.of2 hM7
    cases hsx : s5 with
    | none =>
      rw [hsx] at HG
      have HG2 : Hid (encG ⟨gc, gk, gs, ga, gd, bo⟩ = none) := Lib.hid HG.out
      have HMD := Lib.hid (HMB.out.of2 hmd7)
      clear hF7 hM7 hmd7 HG
      go_wp2_with fail
      go_ret2
      exact ⟨_, by rw [HG2.out]; rfl, by rw [HG2.out]; exact World.ownsRow_nil _ _ _ _, HMD.out, none, 0, by rw [HG2.out]; rfl⟩
    | some bs7 =>
      rw [hsx] at HG hF7
      have HG2 : Hid (encG ⟨gc, gk, gs, ga, gd, bo⟩ = wrapS gk bs7) := Lib.hid HG.out
      have HMD := Lib.hid hmd7
      have HF7 := Lib.hid hF7
      clear hF7 hM7 hmd7 HG
      have hrg7 : ∀ x ∈ bs7, 0 ≤ x ∧ x < 256 := gBody_range (g := ⟨gc, gk, gs, ga, gd, bo⟩) HBY.out (by rw [← hsx]; exact HS5.out)
      have HRG := Lib.hid hrg7
      clear hrg7 hsx
      obtain ⟨L, hL⟩ : ∃ k, ((some bs7).getD []).length = k := ⟨_, rfl⟩
      have hL2 : bs7.length = L := hL
      have hrd7 : Rd w7 1 (.slice a7 L c7) L (bs7.map (Value.int .u8)) := by have h := Rd.ofOwn HF7.out; rw [show (some bs7).getD [] = bs7 from rfl, hL2] at h; exact h
      rw [hL]
      have HRD := Lib.hid hrd7
      have HL := Lib.hid hL2
      clear hL hL2 hrd7
      clear q0 q1 q2 q3 q4 q5 lb
      have hbk := HB.out.at (HMD.out)
      have q1 := hbk.cell 1 rfl
      have lb := hbk.lt
      clear hbk
      go_wp2_with fail
      refine (wrap_any w7 gk a7 L c7 bs7 HL.out HRD.out HRG.out).mono ?_
      rintro e w8 ⟨v8, rfl, hF8, hM8, a8, c8, rfl⟩
      obtain ⟨er, her⟩ : ∃ z : Int, (if (wrapS gk bs7).isNone = true then (1 : Int) else 0) = z := ⟨_, rfl⟩
      rw [her]
      have HER := Lib.hid her
      clear her
      obtain ⟨ln, hln⟩ : ∃ z : Nat, ((wrapS gk bs7).getD []).length = z := ⟨_, rfl⟩
      rw [hln]
      have HLN := Lib.hid hln
      clear hln
      have HF8 := Lib.hid (Own.base hF8 (Nat.le_trans HMB.out.size HMD.out.size))
      have HM8 := Lib.hid ((HMB.out.of2 HMD.out).of2 hM8)
      clear hF8 hM8
      go_wp2_with fail
      go_ret2
      exact ⟨.slice a8 ln c8, by rw [HG2.out, HER.out]; rfl, by rw [HG2.out, ← HLN.out]; exact HF8.out, HM8.out, a8, c8, by rw [HG2.out, HLN.out]⟩
end Go.Proofs.Ytabfmnlpipbegaa
