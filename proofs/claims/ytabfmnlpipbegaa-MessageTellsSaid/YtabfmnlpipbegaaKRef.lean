/- What the reference reads of a message's bytes: plain. -/
import Derived.Test.YtabfmnlpipbegaaKM2
import Derived.Test.YtabfmnlpipbegaaGram4
import Derived.Deep.DeepCutAuto
import Derived.Deep.CutBlock
import Derived.Test.YtabfmnlpipbegaaInts
import Derived.Deep.QuietTactic
import Derived.BigQuiet
import Derived.Test.YtabfmnlpipbegaaGram5
import Derived.Deep.AppendLies
namespace Go.Proofs.Ytabfmnlpipbegaa
open Go.RowKit Mile
set_option maxRecDepth 100000
/-- So many edges, as long as the Reader is not bad. -/
def rdF : Nat → RS2 → List Int → List Int × RS2
  | 0, S, acc => (acc, S)
  | f + 1, S, acc => if S.isNone = true then (acc, S) else rdF f (numR 2 S).2 (acc ++ [(numR 2 S).1])
theorem rdF_none (f : Nat) (acc : List Int) : rdF f none acc = (acc, none) := by
  cases f with
  | zero => rfl
  | succ f => rfl
theorem rdF_step {f : Nat} {S : RS2} {acc : List Int} (h : S.isNone = false) : rdF (f + 1) S acc = rdF f (numR 2 S).2 (acc ++ [(numR 2 S).1]) := by
  show (if S.isNone = true then _ else _) = _
  rw [h]; rfl
def rdFs (S : RS2) : List Int × RS2 := rdF (numR 2 S).1.toNat (numR 2 S).2 []
/-- What the reference reads behind the kind, and what is left. -/
def rrK (k : Int) (S : RS2) : MsD × RS2 :=
  if k = 5 then (⟨k, 0, 0, (rdFs (numR 5 S).2).1, (numR 5 S).1, 0, 0, 0, 0⟩, (rdFs (numR 5 S).2).2) else (rdK k S, rdKS k S)
def rrM (b : List Int) : MsD × RS2 := rrK (numR 1 (some b)).1 (numR 1 (some b)).2
theorem normM_rr (k : Int) (S : RS2) : normM (rrK k S).1 = (rrK k S).1 := by
  unfold rrK
  by_cases h5 : k = 5
  · subst h5; simp [normM]
  · rw [if_neg h5]
    unfold rdK
    by_cases h1 : k = 1
    · subst h1; simp [normM]
    · by_cases h2 : k = 2 ∨ k = 9
      · simp only [if_neg h1, if_pos h2, normM]
      · by_cases h7 : k = 7
        · subst h7; simp [normM]
        · simp only [if_neg h1, if_neg h2, if_neg h5, if_neg h7, normM]
theorem rdF_digs (t : List Int) : ∀ (l acc : List Int), (∀ x ∈ l, fits 2 x = true) → rdF l.length (some (digsL 2 l ++ t)) acc = (acc ++ l, some t) := by
  intro l
  induction l with
  | nil => intro acc _; rw [List.append_nil]; rfl
  | cons x r ih =>
    intro acc hf
    have e : digsL 2 (x :: r) ++ t = digs x 2 ++ (digsL 2 r ++ t) := by show (digs x 2 ++ digsL 2 r) ++ t = _; rw [List.append_assoc]
    rw [e, List.length_cons, rdF_step rfl, show numR 2 (some (digs x 2 ++ (digsL 2 r ++ t))) = (x, some (digsL 2 r ++ t)) from numR_dig 2 ok2 x (hf x (by simp)) _]
    rw [ih (acc ++ [x]) (fun y hy => hf y (by simp [hy])), List.append_assoc]
    rfl
theorem rr_bytes {m : MsD} {bs : List Int} (h : mBytes m = some bs) : rrM bs = (normM m, some []) := by
  have hd := rd_bytes h []
  rw [List.append_nil] at hd
  by_cases hk5 : m.kind = 5
  · obtain ⟨kind, pos, dest, edges, weight, hc, he, hf, hl⟩ := m
    simp only at hk5
    subst hk5
    unfold mBytes at h
    simp only at h
    rw [if_neg (by decide), if_neg (by decide), if_pos trivial] at h
    split at h
    · cases h
    · obtain ⟨b4, e4⟩ := numsS_some h
      rw [e4] at h
      obtain ⟨b3, e3⟩ := numsS_some e4
      rw [e3] at e4
      obtain ⟨b1, e1⟩ := numsS_some e3
      obtain ⟨rfl, f1⟩ := nums_in1 (s := 1) ok1 e1
      rw [e1] at e3
      obtain ⟨rfl, f3⟩ := nums_in1 (s := 5) ok5 e3
      obtain ⟨rfl, f4⟩ := nums_in1 (s := 2) ok2 e4
      obtain ⟨rfl, f5⟩ := nums_inL (s := 2) ok2 edges _ _ h
      have a0 : numR 1 (some ([] ++ digs 5 1 ++ digs weight 5 ++ digs (edges.length : Int) 2 ++ digsL 2 edges)) = (5, some (digs weight 5 ++ (digs (edges.length : Int) 2 ++ (digsL 2 edges ++ [])))) := by
        simp only [List.nil_append, List.append_assoc, List.append_nil]; exact numR_dig 1 ok1 5 f1 _
      have a1 : numR 5 (some (digs weight 5 ++ (digs (edges.length : Int) 2 ++ (digsL 2 edges ++ [])))) = (weight, some (digs (edges.length : Int) 2 ++ (digsL 2 edges ++ []))) := numR_dig 5 ok5 weight f3 _
      have a2 : numR 2 (some (digs (edges.length : Int) 2 ++ (digsL 2 edges ++ []))) = ((edges.length : Int), some (digsL 2 edges ++ [])) := numR_dig 2 ok2 _ f4 _
      have a3 := rdF_digs [] edges [] f5
      rw [List.nil_append] at a3
      unfold rrM rrK rdFs
      rw [a0]
      simp only [if_true]
      rw [a1]
      simp only
      rw [a2]
      simp only [Int.toNat_natCast]
      rw [a3]
      rfl
  · have hk : (numR 1 (some bs)).1 = m.kind := by
      have h1 : (rdM bs).kind = m.kind := by rw [hd.1, normM_kind]
      have h2 : (rdM bs).kind = (numR 1 (some bs)).1 := by
        unfold rdM rdK
        split
        · rfl
        · split
          · rfl
          · split
            · rfl
            · split <;> rfl
      rw [← h2, h1]
    unfold rrM rrK
    rw [if_neg (by rw [hk]; exact hk5)]
    exact Prod.ext hd.1 hd.2
/-- What the reference tells is what Decode tells. -/
theorem rr_yes {b : List Int} (h : mBytes (rrM b).1 = some b) : decM b = ((rrM b).1, 0) := by
  have := dec_encM h
  rw [this]
  unfold rrM
  rw [normM_rr]
theorem rr_no {b : List Int} (h : ¬ ((rrM b).2 = some [] ∧ mBytes (rrM b).1 = some b)) : decM b = (zM, 2) := by
  unfold decM
  rw [if_neg]
  intro h2
  have h3 := rr_bytes h2
  apply h
  rw [h3]
  exact ⟨rfl, by show mBytes (normM (rdM b)) = some b; rw [mBytes_norm]; exact h2⟩
theorem rdF_len : ∀ (f : Nat) (S : RS2) (acc : List Int), (rdF f S acc).1.length ≤ acc.length + f := by
  intro f
  induction f with
  | zero => intro S acc; exact Nat.le_refl _
  | succ f ih =>
    intro S acc
    show (if S.isNone = true then _ else _ : List Int × RS2).1.length ≤ _
    split
    · exact Nat.le_add_right _ _
    · have := ih (numR 2 S).2 (acc ++ [(numR 2 S).1])
      rw [List.length_append] at this
      simp only [List.length_cons, List.length_nil] at this
      omega
end Go.Proofs.Ytabfmnlpipbegaa
namespace Go.Proofs.Ytabfmnlpipbegaa
open Go.RowKit Mile
set_option maxRecDepth 100000
theorem RM.info3 : (Try.prog.info? 3).map (fun i => (i.zero, i.size, i.bytes)) = some (some (.int .i64 0), 1, 8) := by kernel_rfl
theorem numsL_snoc (s : Nat) (x : Int) : ∀ (l bs : List Int), numsL s bs (l ++ [x]) = (numsL s bs l).bind (fun cs => numsL s cs [x]) := by
  intro l
  induction l with
  | nil => intro bs; rfl
  | cons y r ih =>
    intro bs
    show (if fits s y then numsL s (bs ++ digs y s) (r ++ [x]) else none) = (if fits s y then numsL s (bs ++ digs y s) r else none).bind _
    split
    · exact ih _
    · rfl
theorem numsS_snoc {size : Int} (h : sizeOk size = true) (l : List Int) (x : Int) (s : Option (List Int)) : numsS size (l ++ [x]) s = numsS size [x] (numsS size l s) := by
  cases s with
  | none => rfl
  | some bs =>
    show (if sizeOk size then numsL size.toNat bs (l ++ [x]) else none) = numsS size [x] (if sizeOk size then numsL size.toNat bs l else none)
    rw [if_pos h, if_pos h, numsL_snoc]
    cases numsL size.toNat bs l with
    | none => rfl
    | some cs => show _ = (if sizeOk size then numsL size.toNat cs [x] else none); rw [if_pos h]; rfl
theorem numsS_nil {size : Int} (h : sizeOk size = true) (s : Option (List Int)) : numsS size [] s = s := by
  cases s with
  | none => rfl
  | some bs => show (if sizeOk size then numsL size.toNat bs [] else none) = _; rw [if_pos h]; rfl
theorem take_snoc (l : List Int) (j : Nat) (h : j < l.length) : l.take (j + 1) = l.take j ++ [l[j]] := List.take_succ_eq_append_getElem h
theorem fits2_iff (x : Int) : fits 2 x = true ↔ 0 ≤ x ∧ x < 65536 := by
  unfold fits
  have e : (2 : Int) ^ (8 * 2) = 65536 := by decide
  rw [e]; simp
theorem numsS_bad {size x : Int} (h : fits size.toNat x = false) (s : Option (List Int)) : numsS size [x] s = none := by
  cases s with
  | none => rfl
  | some bs =>
    show (if sizeOk size then (if fits size.toNat x then some (bs ++ digs x size.toNat) else none) else none) = none
    rw [h]; split <;> rfl
theorem numsS_none (size : Int) (l : List Int) : numsS size l none = none := rfl
/-- What the reference's Message tells. -/
def RMsgP (m : MsD) (w : World) (e : Ending) (w' : World) : Prop :=
  ∃ a c, e = .returned (.tuple #[.slice a ((mBytes m).getD []).length c, .bool (mBytes m).isSome]) ∧ Fresh w' w.heap.size (.slice a ((mBytes m).getD []).length c) ((mBytes m).getD []) ∧ Mod (fun _ => False) w w'
set_option maxHeartbeats 32000000 in
theorem rmsg_any (w : World) (m : MsD) (a : Option Addr) (n c : Nat) (hn : m.edges.length = n) (hr : Rd w 1 (.slice a n c) n (m.edges.map (Value.int .i64))) (he : -9223372036854775808 ≤ m.he ∧ m.he ≤ 9223372036854775807) (hnb : n ≤ 100000) :
    Calls Try.prog 11 #[msgV m a n c] w (RMsgP m w) := by
  obtain ⟨mk, mp, md, ed, mw, mc, me, mf, ml⟩ := m
  replace hn : ed.length = n := hn
  replace hr : Rd w 1 (.slice a n c) n (ed.map (Value.int .i64)) := hr
  replace he : -9223372036854775808 ≤ me ∧ me ≤ 9223372036854775807 := he
  unfold msgV
  simp only
  obtain ⟨i3, hi3, hz3, hs3, hb3⟩ := info_parts RM.info3
  obtain ⟨bx, hbx⟩ : ∃ b, w.heap.size = b := ⟨_, rfl⟩
  obtain ⟨wB, hwB⟩ : ∃ W, w.alloc (.cells #[.int .i64 mk, .int .i64 mp, .int .i64 md, .slice a n c, .int .i64 mw, .int .i64 mc, .int .i64 me, .int .i64 mf, .int .i64 ml] 26) = W := ⟨_, rfl⟩
  have hB : Blk wB bx 26 [.int .i64 mk, .int .i64 mp, .int .i64 md, .slice a n c, .int .i64 mw, .int .i64 mc, .int .i64 me, .int .i64 mf, .int .i64 ml] := by rw [← hwB, ← hbx]; exact Blk.new _ _ [.int .i64 mk, .int .i64 mp, .int .i64 md, .slice a n c, .int .i64 mw, .int .i64 mc, .int .i64 me, .int .i64 mf, .int .i64 ml]
  have hmB : Mod (fun _ => False) w wB := by rw [← hwB]; exact Mod.alloc _ _ _
  have HB := Lib.hid (Ev.blk hB)
  have HR := Lib.hid (Ev.rd (hr.keep hmB (fun _ _ e => e)))
  have HN := Lib.hid hn
  have HMB := Lib.hid hmB
  have he1 := he.1
  have he2 := he.2
  clear hB hr hn hmB he
  obtain ⟨p, hp⟩ : ∃ b, wB.heap.size = b := ⟨_, rfl⟩
  obtain ⟨w0, hw0⟩ : ∃ W, wB.alloc (.cells #[.slice none 0 0, .bool false] 64) = W := ⟨_, rfl⟩
  obtain ⟨m0, hm0⟩ : ∃ m : Bool × List Int, (false, []) = m := ⟨_, rfl⟩
  have H0 : Hid (MWSt wB w0 p m0 (fun k => k = p)) := Lib.hid (by subst hw0 hp hm0; exact ⟨⟨.slice none 0 0, Blk.new _ _ [.slice none 0 0, .bool false], World.ownsRow_nil _ _ _ _, rfl, fun k hk => by simp [Value.ownBlock] at hk, fun k hk => by subst hk; simp⟩, fun k e => by have h2 : k = _ := e; omega, Mod.alloc _ _ _⟩)
  have R0 : Hid (RelM (some []) m0) := Lib.hid (by subst hm0; exact ⟨rfl, fun bs h => by cases h; rfl⟩)
  have hl0 : m0.2.length = 0 := by rw [← hm0]; rfl
  clear hm0
  go_enter Try.func11, Try.ntmps11
  go_upto_region 2 with fail
  try rw [hwB]
  try rw [hbx]
  try rw [hw0]
  try rw [hp]
  clear hwB hbx hw0 hp
  have hbk := HB.out.at (H0.out.mod)
  have q0 := hbk.cell 0 rfl
  have q1 := hbk.cell 1 rfl
  have q2 := hbk.cell 2 rfl
  have q3 := hbk.cell 3 rfl
  have q4 := hbk.cell 4 rfl
  have q5 := hbk.cell 5 rfl
  have q6 := hbk.cell 6 rfl
  have q7 := hbk.cell 7 rfl
  have q8 := hbk.cell 8 rfl
  have lb := hbk.lt
  clear hbk
  go_wp2_with fail
  refine (mnumW_any p _ m0.1 m0.2 _ H0.out.m 1 (mk) (by omega)).mono ?_
  rintro e wn1 ⟨rfl, F1, hW, hA⟩
  obtain ⟨m1, hm⟩ : ∃ m, mNum 1 (mk) (m0.1, m0.2) = m := ⟨_, rfl⟩
  have R1 := Lib.hid (RelM.num R0.out 1 (mk))
  have hl1 := mNum_len 1 (mk) m0
  rw [show mNum 1 (mk) m0 = m1 from hm] at R1 hl1
  rw [hm] at hW
  have HN1 := Lib.hid (H0.out.aft hW hA)
  clear hW hA hm
  clear q0 q1 q2 q3 q4 q5 q6 q7 q8 lb
  have hbk := HB.out.at (HN1.out.mod)
  have q0 := hbk.cell 0 rfl
  have q1 := hbk.cell 1 rfl
  have q2 := hbk.cell 2 rfl
  have q3 := hbk.cell 3 rfl
  have q4 := hbk.cell 4 rfl
  have q5 := hbk.cell 5 rfl
  have q6 := hbk.cell 6 rfl
  have q7 := hbk.cell 7 rfl
  have q8 := hbk.cell 8 rfl
  have lb := hbk.lt
  clear hbk
  go_upto_block 0 with fail
  clear q0 q1 q2 q3 q4 q5 q6 q7 q8 lb
  go_cut [14] (fun _ wx => ∃ m F5, MWSt wB wx p m F5 ∧ RelM (mBytes ⟨mk, mp, md, ed, mw, mc, me, mf, ml⟩) m ∧ m.2.length ≤ 5000)
  case first =>
    by_cases k1 : mk = 1
    case pos =>
      have z1 : (mk == 1) = true := by rw [k1]; rfl
      have K1 := Lib.hid k1
      clear k1
      have hbk := HB.out.at (HN1.out.mod)
      have q0 := hbk.cell 0 rfl
      have q1 := hbk.cell 1 rfl
      have q2 := hbk.cell 2 rfl
      have q3 := hbk.cell 3 rfl
      have q4 := hbk.cell 4 rfl
      have q5 := hbk.cell 5 rfl
      have q6 := hbk.cell 6 rfl
      have q7 := hbk.cell 7 rfl
      have q8 := hbk.cell 8 rfl
      have lb := hbk.lt
      clear hbk
      go_wp2_with fail
      refine (mnumW_any p _ m1.1 m1.2 _ HN1.out.m 2 (mp) (by omega)).mono ?_
      rintro e wn2 ⟨rfl, F2, hW, hA⟩
      obtain ⟨m2, hm⟩ : ∃ m, mNum 2 (mp) (m1.1, m1.2) = m := ⟨_, rfl⟩
      have R2 := Lib.hid (RelM.num R1.out 2 (mp))
      have hl2 := mNum_len 2 (mp) m1
      rw [show mNum 2 (mp) m1 = m2 from hm] at R2 hl2
      rw [hm] at hW
      have HN2 := Lib.hid (HN1.out.aft hW hA)
      clear hW hA hm
      clear q0 q1 q2 q3 q4 q5 q6 q7 q8 lb
      have hbk := HB.out.at (HN2.out.mod)
      have q0 := hbk.cell 0 rfl
      have q1 := hbk.cell 1 rfl
      have q2 := hbk.cell 2 rfl
      have q3 := hbk.cell 3 rfl
      have q4 := hbk.cell 4 rfl
      have q5 := hbk.cell 5 rfl
      have q6 := hbk.cell 6 rfl
      have q7 := hbk.cell 7 rfl
      have q8 := hbk.cell 8 rfl
      have lb := hbk.lt
      clear hbk
      go_wp2_with fail
      refine (mnumW_any p _ m2.1 m2.2 _ HN2.out.m 2 (md) (by omega)).mono ?_
      rintro e wn3 ⟨rfl, F3, hW, hA⟩
      obtain ⟨m3, hm⟩ : ∃ m, mNum 2 (md) (m2.1, m2.2) = m := ⟨_, rfl⟩
      have R3 := Lib.hid (RelM.num R2.out 2 (md))
      have hl3 := mNum_len 2 (md) m2
      rw [show mNum 2 (md) m2 = m3 from hm] at R3 hl3
      rw [hm] at hW
      have HN3 := Lib.hid (HN2.out.aft hW hA)
      clear hW hA hm
      clear q0 q1 q2 q3 q4 q5 q6 q7 q8 lb
      go_wp2_with fail
      go_meet
      exact ⟨m3, _, HN3.out, by rw [show mBytes ⟨mk, mp, md, ed, mw, mc, me, mf, ml⟩ = (numsS 2 [md] (numsS 2 [mp] (numsS 1 [mk] (some [])))) from by unfold mBytes; simp only; rw [if_pos K1.out, numsS_two]]; exact R3.out, by omega⟩
    case neg =>
      have z1 : (mk == 1) = false := by rw [beq_eq_false_iff_ne]; exact k1
      have K1 := Lib.hid k1
      clear k1
      by_cases k2 : mk = 2
      case pos =>
        have z2 : (mk == 2) = true := by rw [k2]; rfl
        have K2 := Lib.hid k2
        clear k2
        have hbk := HB.out.at (HN1.out.mod)
        have q0 := hbk.cell 0 rfl
        have q1 := hbk.cell 1 rfl
        have q2 := hbk.cell 2 rfl
        have q3 := hbk.cell 3 rfl
        have q4 := hbk.cell 4 rfl
        have q5 := hbk.cell 5 rfl
        have q6 := hbk.cell 6 rfl
        have q7 := hbk.cell 7 rfl
        have q8 := hbk.cell 8 rfl
        have lb := hbk.lt
        clear hbk
        go_wp2_with fail
        refine (mnumW_any p _ m1.1 m1.2 _ HN1.out.m 2 (mp) (by omega)).mono ?_
        rintro e wn4 ⟨rfl, F4, hW, hA⟩
        obtain ⟨m4, hm⟩ : ∃ m, mNum 2 (mp) (m1.1, m1.2) = m := ⟨_, rfl⟩
        have R4 := Lib.hid (RelM.num R1.out 2 (mp))
        have hl4 := mNum_len 2 (mp) m1
        rw [show mNum 2 (mp) m1 = m4 from hm] at R4 hl4
        rw [hm] at hW
        have HN4 := Lib.hid (HN1.out.aft hW hA)
        clear hW hA hm
        clear q0 q1 q2 q3 q4 q5 q6 q7 q8 lb
        go_wp2_with fail
        go_meet
        exact ⟨m4, _, HN4.out, by rw [show mBytes ⟨mk, mp, md, ed, mw, mc, me, mf, ml⟩ = (numsS 2 [mp] (numsS 1 [mk] (some []))) from by unfold mBytes; simp only; rw [if_neg K1.out, if_pos (.inl K2.out)]]; exact R4.out, by omega⟩
      case neg =>
        have z2 : (mk == 2) = false := by rw [beq_eq_false_iff_ne]; exact k2
        have K2 := Lib.hid k2
        clear k2
        by_cases k9 : mk = 9
        case pos =>
          have z9 : (mk == 9) = true := by rw [k9]; rfl
          have K9 := Lib.hid k9
          clear k9
          have hbk := HB.out.at (HN1.out.mod)
          have q0 := hbk.cell 0 rfl
          have q1 := hbk.cell 1 rfl
          have q2 := hbk.cell 2 rfl
          have q3 := hbk.cell 3 rfl
          have q4 := hbk.cell 4 rfl
          have q5 := hbk.cell 5 rfl
          have q6 := hbk.cell 6 rfl
          have q7 := hbk.cell 7 rfl
          have q8 := hbk.cell 8 rfl
          have lb := hbk.lt
          clear hbk
          go_wp2_with fail
          refine (mnumW_any p _ m1.1 m1.2 _ HN1.out.m 2 (mp) (by omega)).mono ?_
          rintro e wn5 ⟨rfl, F5, hW, hA⟩
          obtain ⟨m5, hm⟩ : ∃ m, mNum 2 (mp) (m1.1, m1.2) = m := ⟨_, rfl⟩
          have R5 := Lib.hid (RelM.num R1.out 2 (mp))
          have hl5 := mNum_len 2 (mp) m1
          rw [show mNum 2 (mp) m1 = m5 from hm] at R5 hl5
          rw [hm] at hW
          have HN5 := Lib.hid (HN1.out.aft hW hA)
          clear hW hA hm
          clear q0 q1 q2 q3 q4 q5 q6 q7 q8 lb
          go_wp2_with fail
          go_meet
          exact ⟨m5, _, HN5.out, by rw [show mBytes ⟨mk, mp, md, ed, mw, mc, me, mf, ml⟩ = (numsS 2 [mp] (numsS 1 [mk] (some []))) from by unfold mBytes; simp only; rw [if_neg K1.out, if_pos (.inr K9.out)]]; exact R5.out, by omega⟩
        case neg =>
          have z9 : (mk == 9) = false := by rw [beq_eq_false_iff_ne]; exact k9
          have K9 := Lib.hid k9
          clear k9
          by_cases k5 : mk = 5
          case pos =>
            have z5 : (mk == 5) = true := by rw [k5]; rfl
            have K5 := Lib.hid k5
            clear k5
            have hbk := HB.out.at (HN1.out.mod)
            have q0 := hbk.cell 0 rfl
            have q1 := hbk.cell 1 rfl
            have q2 := hbk.cell 2 rfl
            have q3 := hbk.cell 3 rfl
            have q4 := hbk.cell 4 rfl
            have q5 := hbk.cell 5 rfl
            have q6 := hbk.cell 6 rfl
            have q7 := hbk.cell 7 rfl
            have q8 := hbk.cell 8 rfl
            have lb := hbk.lt
            clear hbk
            by_cases hle : 512 < n
            case pos =>
              have y0 : decide (512 < (n : Int)) = true := by simp; omega
              have HG2 : Hid (mBytes ⟨mk, mp, md, ed, mw, mc, me, mf, ml⟩ = none) := Lib.hid (by unfold mBytes; simp only; rw [if_neg K1.out, if_neg (fun h : mk = 2 ∨ mk = 9 => h.elim K2.out K9.out), if_pos K5.out, if_pos (by have := HN.out; omega)])
              go_wp2_with fail
              go_ret2
              exact ⟨none, 0, by rw [HG2.out]; rfl, by rw [HG2.out]; exact World.ownsRow_nil _ _ _ _, HMB.out.of2 HN1.out.mod⟩
            case neg =>
              have y0 : decide (512 < (n : Int)) = false := by simp; omega
              have y00 : decide (512 < n) = false := by simp; omega
              go_upto_region 14 with fail
              clear q0 q1 q2 q3 q4 q5 q6 q7 q8 lb
              have hbk := HB.out.at (HN1.out.mod)
              have q0 := hbk.cell 0 rfl
              have q1 := hbk.cell 1 rfl
              have q2 := hbk.cell 2 rfl
              have q3 := hbk.cell 3 rfl
              have q4 := hbk.cell 4 rfl
              have q5 := hbk.cell 5 rfl
              have q6 := hbk.cell 6 rfl
              have q7 := hbk.cell 7 rfl
              have q8 := hbk.cell 8 rfl
              have lb := hbk.lt
              clear hbk
              go_wp2_with fail
              refine (mnumW_any p _ m1.1 m1.2 _ HN1.out.m 5 (mw) (by omega)).mono ?_
              rintro e wn6 ⟨rfl, F6, hW, hA⟩
              obtain ⟨m6, hm⟩ : ∃ m, mNum 5 (mw) (m1.1, m1.2) = m := ⟨_, rfl⟩
              have R6 := Lib.hid (RelM.num R1.out 5 (mw))
              have hl6 := mNum_len 5 (mw) m1
              rw [show mNum 5 (mw) m1 = m6 from hm] at R6 hl6
              rw [hm] at hW
              have HN6 := Lib.hid (HN1.out.aft hW hA)
              clear hW hA hm
              clear q0 q1 q2 q3 q4 q5 q6 q7 q8 lb
              have hbk := HB.out.at (HN6.out.mod)
              have q0 := hbk.cell 0 rfl
              have q1 := hbk.cell 1 rfl
              have q2 := hbk.cell 2 rfl
              have q3 := hbk.cell 3 rfl
              have q4 := hbk.cell 4 rfl
              have q5 := hbk.cell 5 rfl
              have q6 := hbk.cell 6 rfl
              have q7 := hbk.cell 7 rfl
              have q8 := hbk.cell 8 rfl
              have lb := hbk.lt
              clear hbk
              go_wp2_with fail
              refine (mnumW_any p _ m6.1 m6.2 _ HN6.out.m 2 ((n : Int)) (by omega)).mono ?_
              rintro e wn7 ⟨rfl, F7, hW, hA⟩
              obtain ⟨m7, hm⟩ : ∃ m, mNum 2 ((n : Int)) (m6.1, m6.2) = m := ⟨_, rfl⟩
              have R7 := Lib.hid (RelM.num R6.out 2 ((n : Int)))
              have hl7 := mNum_len 2 ((n : Int)) m6
              rw [show mNum 2 ((n : Int)) m6 = m7 from hm] at R7 hl7
              rw [hm] at hW
              have HN7 := Lib.hid (HN6.out.aft hW hA)
              clear hW hA hm
              clear q0 q1 q2 q3 q4 q5 q6 q7 q8 lb
              have hbk := HB.out.at (HN7.out.mod)
              have q0 := hbk.cell 0 rfl
              have q1 := hbk.cell 1 rfl
              have q2 := hbk.cell 2 rfl
              have q3 := hbk.cell 3 rfl
              have q4 := hbk.cell 4 rfl
              have q5 := hbk.cell 5 rfl
              have q6 := hbk.cell 6 rfl
              have q7 := hbk.cell 7 rfl
              have q8 := hbk.cell 8 rfl
              have lb := hbk.lt
              clear hbk
              go_wp2_with fail
              clear q0 q1 q2 q3 q4 q5 q6 q7 q8 lb
              go_loopw [5] (fun iv wr => ∃ (j : Nat) (mm : Bool × List Int) (FF : Nat → Prop), iv = .int .i64 j ∧ j ≤ n ∧ MWSt wB wr p mm FF ∧ RelM (numsS 2 (ed.take j) (numsS 2 [(n : Int)] (numsS 5 [mw] (numsS 1 [mk] (some []))))) mm ∧ mm.2.length ≤ 60 + 7 * j) (fun iv _ => n - (intOf iv).toNat)
              case atStart => exact ⟨0, m7, _, rfl, by omega, HN7.out, by rw [List.take_zero, numsS_nil (by decide)]; exact R7.out, by omega⟩
              case round =>
                obtain ⟨j, m50, F50, rfl, hjn, hst, hrl, hl50⟩ := hrel
                have HN50 := Lib.hid hst
                have R50 := Lib.hid hrl
                clear hst hrl
                by_cases hlt : j < n
                case neg =>
                  obtain rfl : j = n := by omega
                  have x0 : decide ((j : Int) < (j : Int)) = false := by simp
                  have x1 : decide (j < j) = false := by simp
                  have hbk := HB.out.at (HN50.out.mod)
                  have q0 := hbk.cell 0 rfl
                  have q1 := hbk.cell 1 rfl
                  have q2 := hbk.cell 2 rfl
                  have q3 := hbk.cell 3 rfl
                  have q4 := hbk.cell 4 rfl
                  have q5 := hbk.cell 5 rfl
                  have q6 := hbk.cell 6 rfl
                  have q7 := hbk.cell 7 rfl
                  have q8 := hbk.cell 8 rfl
                  have lb := hbk.lt
                  clear hbk
                  go_wp2_with fail
                  go_meet
                  exact ⟨m50, _, HN50.out, by have h := R50.out; rw [List.take_of_length_le (by have := HN.out; omega)] at h; rw [show mBytes ⟨mk, mp, md, ed, mw, mc, me, mf, ml⟩ = numsS 2 ed (numsS 2 [(j : Int)] (numsS 5 [mw] (numsS 1 [mk] (some [])))) from by unfold mBytes; simp only; rw [if_neg K1.out, if_neg (fun h : mk = 2 ∨ mk = 9 => h.elim K2.out K9.out), if_pos K5.out, if_neg (by have := HN.out; omega), HN.out]]; exact h, by omega⟩
                case pos =>
                  have x0 : decide ((j : Int) < (n : Int)) = true := by simp; omega
                  have x1 : decide (j < n) = true := by simp; omega
                  have hjl : j < ed.length := by rw [HN.out]; exact hlt
                  have hix := fun wx => run_indexS (P := Try.prog) wx 22 3 i3 1 Try.underlying22 hi3 hs3 a n c j hlt ((HR.out.at HN50.out.mod).some_ (by omega))
                  have hcx : wr.cell? (elemA a j 1) = some (.int .i64 ed[j]) := (HR.out.at HN50.out.mod).elem (by simp [hjl])
                  have hsn : Hid (numsS 2 (ed.take (j + 1)) (numsS 2 [(n : Int)] (numsS 5 [mw] (numsS 1 [mk] (some [])))) = numsS 2 [ed[j]] (numsS 2 (ed.take j) (numsS 2 [(n : Int)] (numsS 5 [mw] (numsS 1 [mk] (some [])))))) := Lib.hid (by rw [take_snoc ed j hjl, numsS_snoc (by decide)])
                  obtain ⟨u, hu⟩ : ∃ u, ed[j] = u := ⟨_, rfl⟩
                  rw [hu] at hcx hsn
                  clear hu
                  have hbk := HB.out.at (HN50.out.mod)
                  have q0 := hbk.cell 0 rfl
                  have q1 := hbk.cell 1 rfl
                  have q2 := hbk.cell 2 rfl
                  have q3 := hbk.cell 3 rfl
                  have q4 := hbk.cell 4 rfl
                  have q5 := hbk.cell 5 rfl
                  have q6 := hbk.cell 6 rfl
                  have q7 := hbk.cell 7 rfl
                  have q8 := hbk.cell 8 rfl
                  have lb := hbk.lt
                  clear hbk
                  go_wp2_with fail
                  refine (mnumW_any p _ m50.1 m50.2 _ HN50.out.m 2 (u) (by omega)).mono ?_
                  rintro e wn8 ⟨rfl, F8, hW, hA⟩
                  obtain ⟨m8, hm⟩ : ∃ m, mNum 2 (u) (m50.1, m50.2) = m := ⟨_, rfl⟩
                  have R8 := Lib.hid (RelM.num R50.out 2 (u))
                  have hl8 := mNum_len 2 (u) m50
                  rw [show mNum 2 (u) m50 = m8 from hm] at R8 hl8
                  rw [hm] at hW
                  have HN8 := Lib.hid (HN50.out.aft hW hA)
                  clear hW hA hm
                  clear q0 q1 q2 q3 q4 q5 q6 q7 q8 lb
                  go_wp2_with fail
                  go_roundw
                  case rel => exact ⟨j + 1, m8, _, by go_num, hlt, HN8.out, by rw [hsn.out]; exact R8.out, by omega⟩
                  case measure => simp [intOf]; omega
          case neg =>
            have z5 : (mk == 5) = false := by rw [beq_eq_false_iff_ne]; exact k5
            have K5 := Lib.hid k5
            clear k5
            by_cases k7 : mk = 7
            case pos =>
              have z7 : (mk == 7) = true := by rw [k7]; rfl
              have K7 := Lib.hid k7
              clear k7
              have hbk := HB.out.at (HN1.out.mod)
              have q0 := hbk.cell 0 rfl
              have q1 := hbk.cell 1 rfl
              have q2 := hbk.cell 2 rfl
              have q3 := hbk.cell 3 rfl
              have q4 := hbk.cell 4 rfl
              have q5 := hbk.cell 5 rfl
              have q6 := hbk.cell 6 rfl
              have q7 := hbk.cell 7 rfl
              have q8 := hbk.cell 8 rfl
              have lb := hbk.lt
              clear hbk
              go_wp2_with fail
              refine (mnumW_any p _ m1.1 m1.2 _ HN1.out.m 1 (mc) (by omega)).mono ?_
              rintro e wn9 ⟨rfl, F9, hW, hA⟩
              obtain ⟨m9, hm⟩ : ∃ m, mNum 1 (mc) (m1.1, m1.2) = m := ⟨_, rfl⟩
              have R9 := Lib.hid (RelM.num R1.out 1 (mc))
              have hl9 := mNum_len 1 (mc) m1
              rw [show mNum 1 (mc) m1 = m9 from hm] at R9 hl9
              rw [hm] at hW
              have HN9 := Lib.hid (HN1.out.aft hW hA)
              clear hW hA hm
              clear q0 q1 q2 q3 q4 q5 q6 q7 q8 lb
              by_cases c1 : me < -1
              case pos =>
                have y0 : decide (me < -1) = true := by simp; omega
                have hbk := HB.out.at (HN9.out.mod)
                have q0 := hbk.cell 0 rfl
                have q1 := hbk.cell 1 rfl
                have q2 := hbk.cell 2 rfl
                have q3 := hbk.cell 3 rfl
                have q4 := hbk.cell 4 rfl
                have q5 := hbk.cell 5 rfl
                have q6 := hbk.cell 6 rfl
                have q7 := hbk.cell 7 rfl
                have q8 := hbk.cell 8 rfl
                have lb := hbk.lt
                clear hbk
                have HG2 : Hid (mBytes ⟨mk, mp, md, ed, mw, mc, me, mf, ml⟩ = none) := Lib.hid (by unfold mBytes; simp only; rw [if_neg K1.out, if_neg (fun h : mk = 2 ∨ mk = 9 => h.elim K2.out K9.out), if_neg K5.out, if_pos K7.out, numsS_bad (x := edge1 me) (by rw [Bool.eq_false_iff]; intro h; have h2 := (fits2_iff _).1 h; unfold edge1 at h2; split at h2 <;> omega)]; rfl)
                go_wp2_with fail
                go_ret2
                exact ⟨none, 0, by rw [HG2.out]; rfl, by rw [HG2.out]; exact World.ownsRow_nil _ _ _ _, HMB.out.of2 HN9.out.mod⟩
              case neg =>
                have y0 : decide (me < -1) = false := by simp; omega
                by_cases c2 : 65534 < me
                case pos =>
                  have y1 : decide (65534 < me) = true := by simp; omega
                  have hbk := HB.out.at (HN9.out.mod)
                  have q0 := hbk.cell 0 rfl
                  have q1 := hbk.cell 1 rfl
                  have q2 := hbk.cell 2 rfl
                  have q3 := hbk.cell 3 rfl
                  have q4 := hbk.cell 4 rfl
                  have q5 := hbk.cell 5 rfl
                  have q6 := hbk.cell 6 rfl
                  have q7 := hbk.cell 7 rfl
                  have q8 := hbk.cell 8 rfl
                  have lb := hbk.lt
                  clear hbk
                  have HG2 : Hid (mBytes ⟨mk, mp, md, ed, mw, mc, me, mf, ml⟩ = none) := Lib.hid (by unfold mBytes; simp only; rw [if_neg K1.out, if_neg (fun h : mk = 2 ∨ mk = 9 => h.elim K2.out K9.out), if_neg K5.out, if_pos K7.out, numsS_bad (x := edge1 me) (by rw [Bool.eq_false_iff]; intro h; have h2 := (fits2_iff _).1 h; unfold edge1 at h2; split at h2 <;> omega)]; rfl)
                  go_wp2_with fail
                  go_ret2
                  exact ⟨none, 0, by rw [HG2.out]; rfl, by rw [HG2.out]; exact World.ownsRow_nil _ _ _ _, HMB.out.of2 HN9.out.mod⟩
                case neg =>
                  have y1 : decide (65534 < me) = false := by simp; omega
                  have HE1 : Hid (edge1 me = me + 1) := Lib.hid (by unfold edge1; rw [if_neg (by omega)])
                  have hbk := HB.out.at (HN9.out.mod)
                  have q0 := hbk.cell 0 rfl
                  have q1 := hbk.cell 1 rfl
                  have q2 := hbk.cell 2 rfl
                  have q3 := hbk.cell 3 rfl
                  have q4 := hbk.cell 4 rfl
                  have q5 := hbk.cell 5 rfl
                  have q6 := hbk.cell 6 rfl
                  have q7 := hbk.cell 7 rfl
                  have q8 := hbk.cell 8 rfl
                  have lb := hbk.lt
                  clear hbk
                  go_wp2_with fail
                  refine (mnumW_any p _ m9.1 m9.2 _ HN9.out.m 2 (me + 1) (by omega)).mono ?_
                  rintro e wn10 ⟨rfl, F10, hW, hA⟩
                  obtain ⟨m10, hm⟩ : ∃ m, mNum 2 (me + 1) (m9.1, m9.2) = m := ⟨_, rfl⟩
                  have R10 := Lib.hid (RelM.num R9.out 2 (me + 1))
                  have hl10 := mNum_len 2 (me + 1) m9
                  rw [show mNum 2 (me + 1) m9 = m10 from hm] at R10 hl10
                  rw [hm] at hW
                  have HN10 := Lib.hid (HN9.out.aft hW hA)
                  clear hW hA hm
                  clear q0 q1 q2 q3 q4 q5 q6 q7 q8 lb
                  have hbk := HB.out.at (HN10.out.mod)
                  have q0 := hbk.cell 0 rfl
                  have q1 := hbk.cell 1 rfl
                  have q2 := hbk.cell 2 rfl
                  have q3 := hbk.cell 3 rfl
                  have q4 := hbk.cell 4 rfl
                  have q5 := hbk.cell 5 rfl
                  have q6 := hbk.cell 6 rfl
                  have q7 := hbk.cell 7 rfl
                  have q8 := hbk.cell 8 rfl
                  have lb := hbk.lt
                  clear hbk
                  go_wp2_with fail
                  refine (mnumW_any p _ m10.1 m10.2 _ HN10.out.m 5 (mf) (by omega)).mono ?_
                  rintro e wn11 ⟨rfl, F11, hW, hA⟩
                  obtain ⟨m11, hm⟩ : ∃ m, mNum 5 (mf) (m10.1, m10.2) = m := ⟨_, rfl⟩
                  have R11 := Lib.hid (RelM.num R10.out 5 (mf))
                  have hl11 := mNum_len 5 (mf) m10
                  rw [show mNum 5 (mf) m10 = m11 from hm] at R11 hl11
                  rw [hm] at hW
                  have HN11 := Lib.hid (HN10.out.aft hW hA)
                  clear hW hA hm
                  clear q0 q1 q2 q3 q4 q5 q6 q7 q8 lb
                  have hbk := HB.out.at (HN11.out.mod)
                  have q0 := hbk.cell 0 rfl
                  have q1 := hbk.cell 1 rfl
                  have q2 := hbk.cell 2 rfl
                  have q3 := hbk.cell 3 rfl
                  have q4 := hbk.cell 4 rfl
                  have q5 := hbk.cell 5 rfl
                  have q6 := hbk.cell 6 rfl
                  have q7 := hbk.cell 7 rfl
                  have q8 := hbk.cell 8 rfl
                  have lb := hbk.lt
                  clear hbk
                  go_wp2_with fail
                  refine (mnumW_any p _ m11.1 m11.2 _ HN11.out.m 5 (ml) (by omega)).mono ?_
                  rintro e wn12 ⟨rfl, F12, hW, hA⟩
                  obtain ⟨m12, hm⟩ : ∃ m, mNum 5 (ml) (m11.1, m11.2) = m := ⟨_, rfl⟩
                  have R12 := Lib.hid (RelM.num R11.out 5 (ml))
                  have hl12 := mNum_len 5 (ml) m11
                  rw [show mNum 5 (ml) m11 = m12 from hm] at R12 hl12
                  rw [hm] at hW
                  have HN12 := Lib.hid (HN11.out.aft hW hA)
                  clear hW hA hm
                  clear q0 q1 q2 q3 q4 q5 q6 q7 q8 lb
                  go_wp2_with fail
                  go_meet
                  exact ⟨m12, _, HN12.out, by rw [show mBytes ⟨mk, mp, md, ed, mw, mc, me, mf, ml⟩ = (numsS 5 [ml] (numsS 5 [mf] (numsS 2 [me + 1] (numsS 1 [mc] (numsS 1 [mk] (some [])))))) from by unfold mBytes; simp only; rw [if_neg K1.out, if_neg (fun h : mk = 2 ∨ mk = 9 => h.elim K2.out K9.out), if_neg K5.out, if_pos K7.out, HE1.out, numsS_two]]; exact R12.out, by omega⟩
            case neg =>
              have z7 : (mk == 7) = false := by rw [beq_eq_false_iff_ne]; exact k7
              have K7 := Lib.hid k7
              clear k7
              by_cases k3 : mk = 3
              case pos =>
                have z3 : (mk == 3) = true := by rw [k3]; rfl
                have K3 := Lib.hid k3
                clear k3
                go_wp2_with fail
                go_meet
                exact ⟨m1, _, HN1.out, by rw [show mBytes ⟨mk, mp, md, ed, mw, mc, me, mf, ml⟩ = (numsS 1 [mk] (some [])) from by unfold mBytes; simp only; rw [if_neg K1.out, if_neg (fun h : mk = 2 ∨ mk = 9 => h.elim K2.out K9.out), if_neg K5.out, if_neg K7.out, if_pos (.inl K3.out)]]; exact R1.out, by omega⟩
              case neg =>
                have z3 : (mk == 3) = false := by rw [beq_eq_false_iff_ne]; exact k3
                have K3 := Lib.hid k3
                clear k3
                by_cases k4 : mk = 4
                case pos =>
                  have z4 : (mk == 4) = true := by rw [k4]; rfl
                  have K4 := Lib.hid k4
                  clear k4
                  go_wp2_with fail
                  go_meet
                  exact ⟨m1, _, HN1.out, by rw [show mBytes ⟨mk, mp, md, ed, mw, mc, me, mf, ml⟩ = (numsS 1 [mk] (some [])) from by unfold mBytes; simp only; rw [if_neg K1.out, if_neg (fun h : mk = 2 ∨ mk = 9 => h.elim K2.out K9.out), if_neg K5.out, if_neg K7.out, if_pos (.inr (.inl K4.out))]]; exact R1.out, by omega⟩
                case neg =>
                  have z4 : (mk == 4) = false := by rw [beq_eq_false_iff_ne]; exact k4
                  have K4 := Lib.hid k4
                  clear k4
                  by_cases k6 : mk = 6
                  case pos =>
                    have z6 : (mk == 6) = true := by rw [k6]; rfl
                    have K6 := Lib.hid k6
                    clear k6
                    go_wp2_with fail
                    go_meet
                    exact ⟨m1, _, HN1.out, by rw [show mBytes ⟨mk, mp, md, ed, mw, mc, me, mf, ml⟩ = (numsS 1 [mk] (some [])) from by unfold mBytes; simp only; rw [if_neg K1.out, if_neg (fun h : mk = 2 ∨ mk = 9 => h.elim K2.out K9.out), if_neg K5.out, if_neg K7.out, if_pos (.inr (.inr (.inl K6.out)))]]; exact R1.out, by omega⟩
                  case neg =>
                    have z6 : (mk == 6) = false := by rw [beq_eq_false_iff_ne]; exact k6
                    have K6 := Lib.hid k6
                    clear k6
                    by_cases k8 : mk = 8
                    case pos =>
                      have z8 : (mk == 8) = true := by rw [k8]; rfl
                      have K8 := Lib.hid k8
                      clear k8
                      go_wp2_with fail
                      go_meet
                      exact ⟨m1, _, HN1.out, by rw [show mBytes ⟨mk, mp, md, ed, mw, mc, me, mf, ml⟩ = (numsS 1 [mk] (some [])) from by unfold mBytes; simp only; rw [if_neg K1.out, if_neg (fun h : mk = 2 ∨ mk = 9 => h.elim K2.out K9.out), if_neg K5.out, if_neg K7.out, if_pos (.inr (.inr (.inr K8.out)))]]; exact R1.out, by omega⟩
                    case neg =>
                      have z8 : (mk == 8) = false := by rw [beq_eq_false_iff_ne]; exact k8
                      have K8 := Lib.hid k8
                      clear k8
                      have HG2 : Hid (mBytes ⟨mk, mp, md, ed, mw, mc, me, mf, ml⟩ = none) := Lib.hid (by unfold mBytes; simp only; rw [if_neg K1.out, if_neg (fun h : mk = 2 ∨ mk = 9 => h.elim K2.out K9.out), if_neg K5.out, if_neg K7.out, if_neg (fun h => h.elim K3.out (fun h => h.elim K4.out (fun h => h.elim K6.out K8.out)))])
                      go_wp2_with fail
                      go_ret2
                      exact ⟨none, 0, by rw [HG2.out]; rfl, by rw [HG2.out]; exact World.ownsRow_nil _ _ _ _, HMB.out.of2 HN1.out.mod⟩
  case rest =>
    obtain ⟨⟨bad, bs⟩, F5, h5, hrel, hl5⟩ := hcut
    obtain ⟨v, b1, b2, b3, b4, b5⟩ := h5.m
    obtain ⟨av, cv, rfl⟩ := own_form b2
    simp only at b1 b2
    have f0 := b1.cell 0 rfl
    have f1 := b1.cell 1 rfl
    have lp := b1.lt
    have hsz := HMB.out.size
    have b2r := Own.rebase b2 (B := w.heap.size) (fun k hk => by have := h5.low k (b4 k hk).1; omega)
    have HOWN := Lib.hid b2r
    have HM5 := Lib.hid (HMB.out.of2 h5.mod)
    have HREL := Lib.hid hrel
    clear b2 b2r b3 b4 b5 h5 hrel
    cases bad with
    | true =>
      have HG2 : Hid (mBytes ⟨mk, mp, md, ed, mw, mc, me, mf, ml⟩ = none) := Lib.hid (by have h := HREL.out.1; cases hs : mBytes ⟨mk, mp, md, ed, mw, mc, me, mf, ml⟩ with | none => rfl | some y => rw [hs] at h; cases h)
      go_wp2_with fail
      go_ret2
      exact ⟨none, 0, by rw [HG2.out]; rfl, by rw [HG2.out]; exact World.ownsRow_nil _ _ _ _, HM5.out⟩
    | false =>
      have HG2 : Hid (mBytes ⟨mk, mp, md, ed, mw, mc, me, mf, ml⟩ = some bs) := Lib.hid (by have h := HREL.out.1; have h2 := HREL.out.2; cases hs : mBytes ⟨mk, mp, md, ed, mw, mc, me, mf, ml⟩ with | none => rw [hs] at h; cases h | some y => rw [hs] at h2; exact congrArg some (h2 y rfl).symm)
      go_wp2_with fail
      go_ret2
      exact ⟨av, cv, by rw [HG2.out]; rfl, by rw [HG2.out]; exact HOWN.out, HM5.out⟩
end Go.Proofs.Ytabfmnlpipbegaa
namespace Go.Proofs.Ytabfmnlpipbegaa
open Go.RowKit Mile
set_option maxRecDepth 100000
set_option maxHeartbeats 16000000 in
theorem rsamem_any (w : World) (x y : MsD) (res : Bool) (hres : res = true ↔ sameM x y) (a : Option Addr) (n c : Nat) (hn : x.edges.length = n) (hr : Rd w 1 (.slice a n c) n (x.edges.map (Value.int .i64))) (a2 : Option Addr) (n2 c2 : Nat) (hn2 : y.edges.length = n2) (hr2 : Rd w 1 (.slice a2 n2 c2) n2 (y.edges.map (Value.int .i64))) (hb : n ≤ 100000) :
    Calls Try.prog 14 #[msgV x a n c, msgV y a2 n2 c2] w fun e w' => e = .returned (.bool res) ∧ Mod (fun _ => False) w w' := by
  obtain ⟨xk, xp, xd, xe, xw, xc, xh, xf, xl⟩ := x
  obtain ⟨yk, yp, yd, ye, yw, yc, yh, yf, yl⟩ := y
  replace hn : xe.length = n := hn
  replace hn2 : ye.length = n2 := hn2
  replace hr : Rd w 1 (.slice a n c) n (xe.map (Value.int .i64)) := hr
  replace hr2 : Rd w 1 (.slice a2 n2 c2) n2 (ye.map (Value.int .i64)) := hr2
  unfold sameM at hres
  simp only at hres
  unfold msgV
  simp only
  obtain ⟨i3, hi3, hz3, hs3, hb3⟩ := info_parts In.info3
  obtain ⟨bx, hbx⟩ : ∃ b, w.heap.size = b := ⟨_, rfl⟩
  obtain ⟨w1, hw1⟩ : ∃ W, w.alloc (.cells #[.int .i64 xk, .int .i64 xp, .int .i64 xd, .slice a n c, .int .i64 xw, .int .i64 xc, .int .i64 xh, .int .i64 xf, .int .i64 xl] 26) = W := ⟨_, rfl⟩
  obtain ⟨by_, hby⟩ : ∃ b, w1.heap.size = b := ⟨_, rfl⟩
  obtain ⟨w2, hw2⟩ : ∃ W, w1.alloc (.cells #[.int .i64 yk, .int .i64 yp, .int .i64 yd, .slice a2 n2 c2, .int .i64 yw, .int .i64 yc, .int .i64 yh, .int .i64 yf, .int .i64 yl] 26) = W := ⟨_, rfl⟩
  have hs1 := hby
  have hm1 : Mod (fun _ => False) w w1 := by rw [← hw1]; exact Mod.alloc _ _ _
  have hm2 : Mod (fun _ => False) w1 w2 := by rw [← hw2]; exact Mod.alloc _ _ _
  have hB1 : Blk w1 bx 26 [.int .i64 xk, .int .i64 xp, .int .i64 xd, .slice a n c, .int .i64 xw, .int .i64 xc, .int .i64 xh, .int .i64 xf, .int .i64 xl] := by rw [← hw1, ← hbx]; exact Blk.new _ _ [.int .i64 xk, .int .i64 xp, .int .i64 xd, .slice a n c, .int .i64 xw, .int .i64 xc, .int .i64 xh, .int .i64 xf, .int .i64 xl]
  have hB2 : Blk w2 w1.heap.size 26 [.int .i64 yk, .int .i64 yp, .int .i64 yd, .slice a2 n2 c2, .int .i64 yw, .int .i64 yc, .int .i64 yh, .int .i64 yf, .int .i64 yl] := by rw [← hw2]; exact Blk.new _ _ [.int .i64 yk, .int .i64 yp, .int .i64 yd, .slice a2 n2 c2, .int .i64 yw, .int .i64 yc, .int .i64 yh, .int .i64 yf, .int .i64 yl]
  rw [hs1] at hB2
  have hB1 := hB1.keep hm2 (fun e => e)
  have HN := Lib.hid hn
  have HN2 := Lib.hid hn2
  have HR1 := Lib.hid (hr.keep (hm1.of2 hm2) (fun _ _ e => e))
  have HR2 := Lib.hid (hr2.keep (hm1.of2 hm2) (fun _ _ e => e))
  have HB1 := Lib.hid (Ev.blk hB1)
  have HB2 := Lib.hid (Ev.blk hB2)
  have HM := Lib.hid (hm1.of2 hm2)
  have HRES := Lib.hid hres
  clear hres hn hn2 hr hr2 hm1 hm2 hB1 hB2 hs1
  go_enter Try.func14, Try.ntmps14
  go_upto_region 1 with fail
  try rw [hw1]
  try rw [hbx]
  try rw [hw2]
  try rw [hby]
  clear hw1 hbx hw2 hby
  have hb1 := HB1.out.at (Mod.refl _ _)
  have p0 := hb1.cell 0 rfl
  have p1 := hb1.cell 1 rfl
  have p2 := hb1.cell 2 rfl
  have p3 := hb1.cell 3 rfl
  have p4 := hb1.cell 4 rfl
  have p5 := hb1.cell 5 rfl
  have p6 := hb1.cell 6 rfl
  have p7 := hb1.cell 7 rfl
  have p8 := hb1.cell 8 rfl
  have l1 := hb1.lt
  have hb2 := HB2.out.at (Mod.refl _ _)
  have q0 := hb2.cell 0 rfl
  have q1 := hb2.cell 1 rfl
  have q2 := hb2.cell 2 rfl
  have q3 := hb2.cell 3 rfl
  have q4 := hb2.cell 4 rfl
  have q5 := hb2.cell 5 rfl
  have q6 := hb2.cell 6 rfl
  have q7 := hb2.cell 7 rfl
  have q8 := hb2.cell 8 rfl
  have l2 := hb2.lt
  clear hb1 hb2
  by_cases hk : xk = yk
  case neg =>
    have zk : (xk != yk) = true := by simpa using hk
    have zzk : (xk == yk) = false := by simpa using hk
    have hf : res = false := by cases res with | false => rfl | true => exact absurd (HRES.out.1 rfl).1 hk
    subst hf
    have HX := Lib.hid hk
    clear hk
    go_wp2_with fail
    go_ret
    exact ⟨rfl, HM.out⟩
  case pos =>
    subst hk
    by_cases hp : xp = yp
    case neg =>
      have zp : (xp != yp) = true := by simpa using hp
      have zzp : (xp == yp) = false := by simpa using hp
      have hf : res = false := by cases res with | false => rfl | true => exact absurd (HRES.out.1 rfl).2.1 hp
      subst hf
      have HX := Lib.hid hp
      clear hp
      go_wp2_with fail
      go_ret
      exact ⟨rfl, HM.out⟩
    case pos =>
      subst hp
      by_cases hd : xd = yd
      case neg =>
        have zd : (xd != yd) = true := by simpa using hd
        have zzd : (xd == yd) = false := by simpa using hd
        have hf : res = false := by cases res with | false => rfl | true => exact absurd (HRES.out.1 rfl).2.2.1 hd
        subst hf
        have HX := Lib.hid hd
        clear hd
        go_wp2_with fail
        go_ret
        exact ⟨rfl, HM.out⟩
      case pos =>
        subst hd
        by_cases hw : xw = yw
        case neg =>
          have zw : (xw != yw) = true := by simpa using hw
          have zzw : (xw == yw) = false := by simpa using hw
          have hf : res = false := by cases res with | false => rfl | true => exact absurd (HRES.out.1 rfl).2.2.2.2.1 hw
          subst hf
          have HX := Lib.hid hw
          clear hw
          go_wp2_with fail
          go_ret
          exact ⟨rfl, HM.out⟩
        case pos =>
          subst hw
          by_cases hc : xc = yc
          case neg =>
            have zc : (xc != yc) = true := by simpa using hc
            have zzc : (xc == yc) = false := by simpa using hc
            have hf : res = false := by cases res with | false => rfl | true => exact absurd (HRES.out.1 rfl).2.2.2.2.2.1 hc
            subst hf
            have HX := Lib.hid hc
            clear hc
            go_wp2_with fail
            go_ret
            exact ⟨rfl, HM.out⟩
          case pos =>
            subst hc
            by_cases hh : xh = yh
            case neg =>
              have zh : (xh != yh) = true := by simpa using hh
              have zzh : (xh == yh) = false := by simpa using hh
              have hf : res = false := by cases res with | false => rfl | true => exact absurd (HRES.out.1 rfl).2.2.2.2.2.2.1 hh
              subst hf
              have HX := Lib.hid hh
              clear hh
              go_wp2_with fail
              go_ret
              exact ⟨rfl, HM.out⟩
            case pos =>
              subst hh
              by_cases hf : xf = yf
              case neg =>
                have zf : (xf != yf) = true := by simpa using hf
                have zzf : (xf == yf) = false := by simpa using hf
                have hf : res = false := by cases res with | false => rfl | true => exact absurd (HRES.out.1 rfl).2.2.2.2.2.2.2.1 hf
                subst hf
                have HX := Lib.hid hf
                clear hf
                go_wp2_with fail
                go_ret
                exact ⟨rfl, HM.out⟩
              case pos =>
                subst hf
                by_cases hl : xl = yl
                case neg =>
                  have zl : (xl != yl) = true := by simpa using hl
                  have zzl : (xl == yl) = false := by simpa using hl
                  have hf : res = false := by cases res with | false => rfl | true => exact absurd (HRES.out.1 rfl).2.2.2.2.2.2.2.2 hl
                  subst hf
                  have HX := Lib.hid hl
                  clear hl
                  go_wp2_with fail
                  go_ret
                  exact ⟨rfl, HM.out⟩
                case pos =>
                  subst hl
                  by_cases hl : n = n2
                  case neg =>
                    have g1 : ((n : Int) != (n2 : Int)) = true := by simp; omega
                    have g2 : ((n : Int) == (n2 : Int)) = false := by simp; omega
                    have hf : res = false := by cases res with | false => rfl | true => exact absurd (by rw [← HN.out, ← HN2.out, (HRES.out.1 rfl).2.2.2.1]) hl
                    subst hf
                    go_wp2_with fail
                    go_ret
                    exact ⟨rfl, HM.out⟩
                  case pos =>
                    subst hl
                    go_wp2_with fail
                    clear p0 q0 p1 q1 p2 q2 p3 q3 p4 q4 p5 q5 p6 q6 p7 q7 p8 q8 l1 l2
                    go_loopw [5] (fun i wr => ∃ (j k : Nat), j ≤ n ∧ i = .int .i64 j ∧ wr = w2.drewN k ∧ ∀ t, t < j → xe.getD t 0 = ye.getD t 0) (fun i _ => n - (intOf i).toNat)
                    case atStart => exact ⟨0, 0, by omega, rfl, rfl, fun t h => by omega⟩
                    case round =>
                      obtain ⟨j, k, hj, rfl, hwr, hall⟩ := hrel
                      have HA := Lib.hid hall
                      have HW := Lib.hid hwr
                      have hMk : Mod (fun _ => False) w2 wr := by rw [hwr]; exact Mod.drewN _ _ _
                      have HMW := Lib.hid hMk
                      clear hall hwr
                      have hb1 := HB1.out.at (hMk)
                      have p0 := hb1.cell 0 rfl
                      have p1 := hb1.cell 1 rfl
                      have p2 := hb1.cell 2 rfl
                      have p3 := hb1.cell 3 rfl
                      have p4 := hb1.cell 4 rfl
                      have p5 := hb1.cell 5 rfl
                      have p6 := hb1.cell 6 rfl
                      have p7 := hb1.cell 7 rfl
                      have p8 := hb1.cell 8 rfl
                      have l1 := hb1.lt
                      have hb2 := HB2.out.at (hMk)
                      have q0 := hb2.cell 0 rfl
                      have q1 := hb2.cell 1 rfl
                      have q2 := hb2.cell 2 rfl
                      have q3 := hb2.cell 3 rfl
                      have q4 := hb2.cell 4 rfl
                      have q5 := hb2.cell 5 rfl
                      have q6 := hb2.cell 6 rfl
                      have q7 := hb2.cell 7 rfl
                      have q8 := hb2.cell 8 rfl
                      have l2 := hb2.lt
                      clear hb1 hb2
                      by_cases hlt : j < n
                      case pos =>
                        have hxl : j < xe.length := by rw [HN.out]; exact hlt
                        have hyl : j < ye.length := by rw [HN2.out]; exact hlt
                        have hix := fun wx => run_indexS (P := Try.prog) wx 22 3 i3 1 Try.underlying22 hi3 hs3 a n c j hlt (HR1.out.some_ (by omega))
                        have hiy := fun wx => run_indexS (P := Try.prog) wx 22 3 i3 1 Try.underlying22 hi3 hs3 a2 n c2 j hlt (HR2.out.some_ (by omega))
                        have cx : wr.cell? (elemA a j 1) = some (.int .i64 xe[j]) := (HR1.out.keepA hMk (fun _ _ e => e.elim)).elem (by simp [hxl])
                        have cy : wr.cell? (elemA a2 j 1) = some (.int .i64 ye[j]) := (HR2.out.keepA hMk (fun _ _ e => e.elim)).elem (by simp [hyl])
                        have hx : xe.getD j 0 = xe[j] := by simp [List.getD, hxl]
                        have hy : ye.getD j 0 = ye[j] := by simp [List.getD, hyl]
                        obtain ⟨u, hu⟩ : ∃ u, xe[j] = u := ⟨_, rfl⟩
                        obtain ⟨v, hv⟩ : ∃ v, ye[j] = v := ⟨_, rfl⟩
                        rw [hu] at cx hx
                        rw [hv] at cy hy
                        have HX := Lib.hid hx
                        have HY := Lib.hid hy
                        clear hx hy hu hv hMk
                        by_cases e : u = v
                        case pos =>
                          subst e
                          go_wp2_with fail
                          go_quiet (fail)
                          go_wp2_with fail
                          go_roundw
                          case rel =>
                            refine ⟨j + 1, k + nq, hlt, by go_num, by rw [HW.out, World.drewN_drewN], fun t ht => ?_⟩
                            by_cases e : t = j
                            · subst e; rw [HX.out, HY.out]
                            · exact HA.out t (by omega)
                          case measure => simp [intOf]; omega
                        case neg =>
                          have g1 : (u != v) = true := by simpa using e
                          have g2 : (u == v) = false := by simpa using e
                          have hf : res = false := by
                            cases res with
                            | false => rfl
                            | true => exact absurd (by rw [← HX.out, ← HY.out, (HRES.out.1 rfl).2.2.2.1]) e
                          subst hf
                          have HEN := Lib.hid e
                          clear e
                          go_wp2_with fail
                          go_quiet (fail)
                          go_wp2_with fail
                          go_ret
                          exact ⟨rfl, HM.out.of2 (HMW.out.of2 (Mod.drewN _ _ _))⟩
                      case neg =>
                        obtain rfl : j = n := by omega
                        have hee : xe = ye := List.ext_getElem (by rw [HN.out, HN2.out]) fun t h1 h2 => by
                          have := HA.out t (by rw [← HN.out]; exact h1)
                          simpa [List.getD, h1, h2] using this
                        have ht : res = true := HRES.out.2 (by simp [hee])
                        subst ht
                        clear hMk hee
                        go_wp2_with fail
                        go_ret
                        exact ⟨rfl, HM.out.of2 HMW.out⟩
end Go.Proofs.Ytabfmnlpipbegaa
namespace Go.Proofs.Ytabfmnlpipbegaa
open Go.RowKit Mile
set_option maxRecDepth 100000
theorem RQ.keep0 {w W W' : World} {T : TypeId} {r gb p : Nat} {s : Option (List Int)} {cs zs : List Value} (h : RQ w W T r gb p s cs zs) (hm : Mod (fun _ => False) W W') : RQ w W' T r gb p s cs zs :=
  ⟨h.rd.keep hm (fun e => e) (fun _ e => e.elim), h.g.keep hm (fun e => e), h.z.keep hm (fun e => e), h.pg, h.rp, h.lr, h.mod.of2 hm⟩
/-- The reader, the variable whose third cell is a row of its own, and that row. -/
structure RE (w W : World) (r gb p : Nat) (S : RS2) (V2 : Int) (zs : List Value) (ag : Option Addr) (j cg : Nat) (acc : List Int) : Prop where
  rq : RQ w W 26 r gb p S [.int .i64 5, .int .i64 0, .int .i64 0, .slice ag j cg, .int .i64 V2, .int .i64 0, .int .i64 0, .int .i64 0, .int .i64 0] zs
  own : W.ownsRow 0 3 1 (.slice ag j cg) j (acc.map (Value.int .i64))
  hi : ∀ k, (Value.slice ag j cg).ownBlock = some k → gb < k
theorem RE.keep {w W W' : World} {r gb p : Nat} {S : RS2} {V2 : Int} {zs : List Value} {ag : Option Addr} {j cg : Nat} {acc : List Int} (h : RE w W r gb p S V2 zs ag j cg acc) (hm : Mod (fun _ => False) W W') : RE w W' r gb p S V2 zs ag j cg acc :=
  ⟨h.rq.keep0 hm, Own.keep h.own hm (fun _ _ e => e), h.hi⟩
theorem RE.num {w W W' : World} {r gb p : Nat} {S S' : RS2} {V2 : Int} {zs : List Value} {ag : Option Addr} {j cg : Nat} {acc : List Int} (h : RE w W r gb p S V2 zs ag j cg acc) (hO : MR W' p S' p) (ha : Mod (fun k => k = p) W W') : RE w W' r gb p S' V2 zs ag j cg acc :=
  ⟨h.rq.aft hO ha, Own.keep h.own ha (fun k hk e => by have h1 := h.hi k hk; have h2 := h.rq.pg; omega), h.hi⟩
theorem RE.push {w W w' : World} {r gb p : Nat} {S : RS2} {V2 : Int} {zs : List Value} {ag : Option Addr} {j cg : Nat} {acc : List Int} (h : RE w W r gb p S V2 zs ag j cg acc) {a3 : Option Addr} {c3 : Nat} {y : Int}
    (hap : Appended W w' 3 1 (.slice ag j cg) (.slice a3 (j + 1) c3) (j + 1) (acc.map (Value.int .i64) ++ [.int .i64 y])) : RE w (w'.setCell ⟨gb, 3, none⟩ (.slice a3 (j + 1) c3)) r gb p S V2 zs a3 (j + 1) c3 (acc ++ [y]) := by
  have h1 := h.rq.pg
  have h2 := h.rq.rp
  have h3 := h.rq.lr
  have hg := h.rq.g.lt
  have lo := hap.low (B := gb + 1) hg (fun k hk => h.hi k hk)
  have hm := hap.mod
  have hq : RQ w w' 26 r gb p S [.int .i64 5, .int .i64 0, .int .i64 0, .slice ag j cg, .int .i64 V2, .int .i64 0, .int .i64 0, .int .i64 0, .int .i64 0] zs :=
    ⟨h.rq.rd.keep hm (fun e => by have := h.hi _ e; omega) (fun k e => by have := h.hi _ e; omega), h.rq.g.keep hm (fun e => by have := h.hi _ e; omega), h.rq.z.keep hm (fun e => by have := h.hi _ e; omega), h1, h2, h3, h.rq.mod.old hm (fun i hi => by have := h.hi _ hi; omega)⟩
  refine ⟨hq.set 3 _, ?_, fun k hk => lo k hk⟩
  have ho := Own.keep hap.own (show Mod (fun k => k = gb) w' (w'.setCell ⟨gb, 3, none⟩ (.slice a3 (j + 1) c3)) from Mod.setCell _ _ _ rfl) (fun k hk e => by have := lo k hk; omega)
  rw [List.map_append]
  exact ho
/-- What ReadMessage tells. -/
def RReadP (b : List Int) (w : World) (e : Ending) (w' : World) : Prop :=
  ∃ a c, e = .returned (.tuple #[msgV (decM b).1 a (decM b).1.edges.length c, .bool (decide ((decM b).2 = 0))]) ∧ World.ownsRow w' w.heap.size 3 1 (.slice a (decM b).1.edges.length c) (decM b).1.edges.length ((decM b).1.edges.map (Value.int .i64)) ∧ Mod (fun _ => False) w w'
set_option maxHeartbeats 32000000 in
theorem rreadm_any (w : World) (a : Option Addr) (n c : Nat) (b : List Int) (hn : b.length = n) (hr : Rd w 1 (.slice a n c) n (b.map (Value.int .u8))) (hb : ∀ x ∈ b, 0 ≤ x ∧ x < 256) (hnb : n ≤ 100000) :
    Calls Try.prog 13 #[.slice a n c] w (RReadP b w) := by
  have hrin := Lib.hid hr
  obtain ⟨iI, hiI, hzI, hsI, hbI⟩ := info_parts RM.info3
  have HN := Lib.hid hn
  have HB := Lib.hid hb
  have R0 : ∀ x ∈ (some b).getD [], 0 ≤ x ∧ x < 256 := hb
  obtain ⟨V1, S1, e1⟩ : ∃ V S, numR 1 (some b) = (V, S) := ⟨_, _, rfl⟩
  have R1 : ∀ x ∈ S1.getD [], 0 ≤ x ∧ x < 256 := fun x hx => R0 x (numR_sub (size := 1) x (by rw [e1]; exact hx))
  have HRM : Hid (rrM b = rrK V1 S1) := Lib.hid (by unfold rrM; rw [e1])
  have E1 := Lib.hid e1
  clear e1
  obtain ⟨r, hr0⟩ : ∃ b, w.heap.size = b := ⟨_, rfl⟩
  obtain ⟨w0, hw0⟩ : ∃ W, w.alloc (.cells #[.int .i64 0, .int .i64 0, .int .i64 0, .slice none 0 0, .int .i64 0, .int .i64 0, .int .i64 0, .int .i64 0, .int .i64 0] 26) = W := ⟨_, rfl⟩
  obtain ⟨p, hp⟩ : ∃ b, w0.heap.size = b := ⟨_, rfl⟩
  obtain ⟨w1, hw1⟩ : ∃ W, w0.alloc (.cells #[.slice a n c, .bool false] 69) = W := ⟨_, rfl⟩
  have hB : Blk w0 r 26 [.int .i64 0, .int .i64 0, .int .i64 0, .slice none 0 0, .int .i64 0, .int .i64 0, .int .i64 0, .int .i64 0, .int .i64 0] := by rw [← hw0, ← hr0]; exact Blk.new _ _ [.int .i64 0, .int .i64 0, .int .i64 0, .slice none 0 0, .int .i64 0, .int .i64 0, .int .i64 0, .int .i64 0, .int .i64 0]
  have hm0 : Mod (fun _ => False) w w0 := by rw [← hw0]; exact Mod.alloc _ _ _
  have hm1 : Mod (fun _ => False) w0 w1 := by rw [← hw1]; exact Mod.alloc _ _ _
  have hrw : w.heap.size ≤ r := by omega
  have hrp : r < p := by have := hB.lt; omega
  have hr1 := hr.keep (hm0.of2 hm1) (fun _ _ e => e)
  have HR := Lib.hid hr1
  have hP : Blk w1 p 69 [.slice a n c, .bool false] := by rw [← hw1, ← hp]; exact Blk.new _ _ [.slice a n c, .bool false]
  have hmr : MR w1 p (some b) p := ⟨.slice a n c, b, hP, by rw [HN.out]; exact hr1, .inr rfl, Nat.le_refl _, fun k hk hB2 => by have h := hr.lt hk (by omega); simpa using h⟩
  have hpl := hP.lt
  have HMR := Lib.hid hmr
  have HQ := Lib.hid (hB.keep hm1 (fun e => e))
  have HM1 := Lib.hid (hm0.of2 hm1)
  clear hmr hP hB hm0 hm1 hr1 hr hn hb
  go_enter Try.func13, Try.ntmps13
  go_upto_region 2 with fail
  try rw [hw0]
  try rw [hr0]
  try rw [hw1]
  try rw [hp]
  clear hw0 hr0 hw1 hp
  go_wp2_with fail
  refine (mnum_any p _ (some b) p HMR.out R0 1).mono ?_
  rw [E1.out]
  rintro e w2 ⟨rfl, hR, hM⟩
  have hs2 := hM.size
  have HR2 := Lib.hid hR
  have HQ2 := Lib.hid (HQ.out.keep hM (fun e => by have h : r = p := e; omega))
  have HM2 := Lib.hid (HM1.out.old hM (fun i hi => by have h : i = p := hi; omega))
  clear hR hM HMR HQ HM1
  go_upto_region 3 with fail
  obtain ⟨gb, hgb⟩ : ∃ b, w2.heap.size = b := ⟨_, rfl⟩
  obtain ⟨w3, hw3⟩ : ∃ W, w2.alloc (.cells #[.int .i64 V1, .int .i64 0, .int .i64 0, .slice none 0 0, .int .i64 0, .int .i64 0, .int .i64 0, .int .i64 0, .int .i64 0] 26) = W := ⟨_, rfl⟩
  have hm3 : Mod (fun _ => False) w2 w3 := by rw [← hw3]; exact Mod.alloc _ _ _
  have H3 := Lib.hid (show RQ w w3 26 r gb p S1 [.int .i64 V1, .int .i64 0, .int .i64 0, .slice none 0 0, .int .i64 0, .int .i64 0, .int .i64 0, .int .i64 0, .int .i64 0] [.int .i64 0, .int .i64 0, .int .i64 0, .slice none 0 0, .int .i64 0, .int .i64 0, .int .i64 0, .int .i64 0, .int .i64 0] from ⟨HR2.out.keep hm3 (fun e => e) (fun _ e => e.elim), by rw [← hw3, ← hgb]; exact Blk.new _ _ [.int .i64 V1, .int .i64 0, .int .i64 0, .slice none 0 0, .int .i64 0, .int .i64 0, .int .i64 0, .int .i64 0, .int .i64 0], HQ2.out.keep hm3 (fun e => e), by omega, hrp, hrw, HM2.out.of2 hm3⟩)
  rw [hw3, hgb]
  clear hw3 hgb hm3 HR2 HQ2 HM2
  have hbk := H3.out.g
  have q0 := hbk.cell 0 rfl
  have q1 := hbk.cell 1 rfl
  have q2 := hbk.cell 2 rfl
  have q3 := hbk.cell 3 rfl
  have q4 := hbk.cell 4 rfl
  have q5 := hbk.cell 5 rfl
  have q6 := hbk.cell 6 rfl
  have q7 := hbk.cell 7 rfl
  have q8 := hbk.cell 8 rfl
  have lq := hbk.lt
  clear hbk
  go_upto_block 0 with fail
  clear q0 q1 q2 q3 q4 q5 q6 q7 q8 lq
  go_cut [18] (fun _ wx => ∃ (m : MsD) (S : RS2) (ax : Option Addr) (nx cx : Nat), RQ w wx 26 r gb p S [.int .i64 m.kind, .int .i64 m.pos, .int .i64 m.dest, .slice ax nx cx, .int .i64 m.weight, .int .i64 m.hc, .int .i64 m.he, .int .i64 m.hf, .int .i64 m.hl] [.int .i64 0, .int .i64 0, .int .i64 0, .slice none 0 0, .int .i64 0, .int .i64 0, .int .i64 0, .int .i64 0, .int .i64 0] ∧ rrK V1 S1 = (m, S) ∧ m.edges.length = nx ∧ nx ≤ 65535 ∧ World.ownsRow wx 0 3 1 (.slice ax nx cx) nx (m.edges.map (Value.int .i64)) ∧ (∀ k, (Value.slice ax nx cx).ownBlock = some k → gb < k) ∧ (-9223372036854775808 ≤ m.he ∧ m.he ≤ 9223372036854775807))
  case first =>
    by_cases k1 : V1 = 1
    case pos =>
      subst k1
      obtain ⟨V2, S2, e2⟩ : ∃ V S, numR 2 S1 = (V, S) := ⟨_, _, rfl⟩
      have R2 : ∀ x ∈ S2.getD [], 0 ≤ x ∧ x < 256 := fun x hx => R1 x (numR_sub (size := 2) x (by rw [e2]; exact hx))
      obtain ⟨V3, S3, e3⟩ : ∃ V S, numR 2 S2 = (V, S) := ⟨_, _, rfl⟩
      have R3 : ∀ x ∈ S3.getD [], 0 ≤ x ∧ x < 256 := fun x hx => R2 x (numR_sub (size := 2) x (by rw [e3]; exact hx))
      have E2 := Lib.hid e2
      have E3 := Lib.hid e3
      clear e2 e3
      have hbk := H3.out.g
      have q0 := hbk.cell 0 rfl
      have q1 := hbk.cell 1 rfl
      have q2 := hbk.cell 2 rfl
      have q3 := hbk.cell 3 rfl
      have q4 := hbk.cell 4 rfl
      have q5 := hbk.cell 5 rfl
      have q6 := hbk.cell 6 rfl
      have q7 := hbk.cell 7 rfl
      have q8 := hbk.cell 8 rfl
      have fq0 := hbk.free 0
      have fq1 := hbk.free 1
      have fq2 := hbk.free 2
      have fq3 := hbk.free 3
      have fq4 := hbk.free 4
      have fq5 := hbk.free 5
      have fq6 := hbk.free 6
      have fq7 := hbk.free 7
      have fq8 := hbk.free 8
      have lq := hbk.lt
      clear hbk
      go_wp2_with fail
      refine (mnum_any p _ S1 p H3.out.rd R1 2).mono ?_
      rw [E2.out]
      rintro e w4 ⟨rfl, hR, hM⟩
      have H4 := Lib.hid (H3.out.aft hR hM)
      clear hR hM
      clear q0 q1 q2 q3 q4 q5 q6 q7 q8 fq0 fq1 fq2 fq3 fq4 fq5 fq6 fq7 fq8 lq
      have hbk := H4.out.g
      have q0 := hbk.cell 0 rfl
      have q1 := hbk.cell 1 rfl
      have q2 := hbk.cell 2 rfl
      have q3 := hbk.cell 3 rfl
      have q4 := hbk.cell 4 rfl
      have q5 := hbk.cell 5 rfl
      have q6 := hbk.cell 6 rfl
      have q7 := hbk.cell 7 rfl
      have q8 := hbk.cell 8 rfl
      have fq0 := hbk.free 0
      have fq1 := hbk.free 1
      have fq2 := hbk.free 2
      have fq3 := hbk.free 3
      have fq4 := hbk.free 4
      have fq5 := hbk.free 5
      have fq6 := hbk.free 6
      have fq7 := hbk.free 7
      have fq8 := hbk.free 8
      have lq := hbk.lt
      clear hbk
      go_upto_region 6 with fail
      obtain ⟨w5, hw⟩ : ∃ W, World.setCell w4 ⟨gb, 1, none⟩ (.int .i64 V2) = W := ⟨_, rfl⟩
      rw [hw]
      clear q0 q1 q2 q3 q4 q5 q6 q7 q8 fq0 fq1 fq2 fq3 fq4 fq5 fq6 fq7 fq8 lq
      have H5 : Hid (RQ w w5 26 r gb p _ [.int .i64 1, .int .i64 V2, .int .i64 0, .slice none 0 0, .int .i64 0, .int .i64 0, .int .i64 0, .int .i64 0, .int .i64 0] [.int .i64 0, .int .i64 0, .int .i64 0, .slice none 0 0, .int .i64 0, .int .i64 0, .int .i64 0, .int .i64 0, .int .i64 0]) := Lib.hid (by rw [← hw]; exact H4.out.set 1 (.int .i64 V2))
      clear hw
      have hbk := H5.out.g
      have q0 := hbk.cell 0 rfl
      have q1 := hbk.cell 1 rfl
      have q2 := hbk.cell 2 rfl
      have q3 := hbk.cell 3 rfl
      have q4 := hbk.cell 4 rfl
      have q5 := hbk.cell 5 rfl
      have q6 := hbk.cell 6 rfl
      have q7 := hbk.cell 7 rfl
      have q8 := hbk.cell 8 rfl
      have fq0 := hbk.free 0
      have fq1 := hbk.free 1
      have fq2 := hbk.free 2
      have fq3 := hbk.free 3
      have fq4 := hbk.free 4
      have fq5 := hbk.free 5
      have fq6 := hbk.free 6
      have fq7 := hbk.free 7
      have fq8 := hbk.free 8
      have lq := hbk.lt
      clear hbk
      go_wp2_with fail
      refine (mnum_any p _ S2 p H5.out.rd R2 2).mono ?_
      rw [E3.out]
      rintro e w6 ⟨rfl, hR, hM⟩
      have H6 := Lib.hid (H5.out.aft hR hM)
      clear hR hM
      clear q0 q1 q2 q3 q4 q5 q6 q7 q8 fq0 fq1 fq2 fq3 fq4 fq5 fq6 fq7 fq8 lq
      have hbk := H6.out.g
      have q0 := hbk.cell 0 rfl
      have q1 := hbk.cell 1 rfl
      have q2 := hbk.cell 2 rfl
      have q3 := hbk.cell 3 rfl
      have q4 := hbk.cell 4 rfl
      have q5 := hbk.cell 5 rfl
      have q6 := hbk.cell 6 rfl
      have q7 := hbk.cell 7 rfl
      have q8 := hbk.cell 8 rfl
      have fq0 := hbk.free 0
      have fq1 := hbk.free 1
      have fq2 := hbk.free 2
      have fq3 := hbk.free 3
      have fq4 := hbk.free 4
      have fq5 := hbk.free 5
      have fq6 := hbk.free 6
      have fq7 := hbk.free 7
      have fq8 := hbk.free 8
      have lq := hbk.lt
      clear hbk
      go_wp2_with fail
      go_meet
      exact ⟨⟨1, V2, V3, [], 0, 0, 0, 0, 0⟩, S3, none, 0, 0, H6.out.set 2 (.int .i64 V3), by unfold rrK rdK rdKS; rw [if_neg (by decide), if_pos rfl, if_pos rfl, E2.out]; simp only; rw [E3.out], rfl, by omega, World.ownsRow_nil _ _ _ _, fun k hk => by simp [Value.ownBlock] at hk, by simp only; omega⟩
    case neg =>
      by_cases k2 : V1 = 2
      case pos =>
        subst k2
        obtain ⟨V2, S2, e2⟩ : ∃ V S, numR 2 S1 = (V, S) := ⟨_, _, rfl⟩
        have R2 : ∀ x ∈ S2.getD [], 0 ≤ x ∧ x < 256 := fun x hx => R1 x (numR_sub (size := 2) x (by rw [e2]; exact hx))
        have E2 := Lib.hid e2
        clear e2
        have hbk := H3.out.g
        have q0 := hbk.cell 0 rfl
        have q1 := hbk.cell 1 rfl
        have q2 := hbk.cell 2 rfl
        have q3 := hbk.cell 3 rfl
        have q4 := hbk.cell 4 rfl
        have q5 := hbk.cell 5 rfl
        have q6 := hbk.cell 6 rfl
        have q7 := hbk.cell 7 rfl
        have q8 := hbk.cell 8 rfl
        have fq0 := hbk.free 0
        have fq1 := hbk.free 1
        have fq2 := hbk.free 2
        have fq3 := hbk.free 3
        have fq4 := hbk.free 4
        have fq5 := hbk.free 5
        have fq6 := hbk.free 6
        have fq7 := hbk.free 7
        have fq8 := hbk.free 8
        have lq := hbk.lt
        clear hbk
        go_wp2_with fail
        refine (mnum_any p _ S1 p H3.out.rd R1 2).mono ?_
        rw [E2.out]
        rintro e w8 ⟨rfl, hR, hM⟩
        have H8 := Lib.hid (H3.out.aft hR hM)
        clear hR hM
        clear q0 q1 q2 q3 q4 q5 q6 q7 q8 fq0 fq1 fq2 fq3 fq4 fq5 fq6 fq7 fq8 lq
        have hbk := H8.out.g
        have q0 := hbk.cell 0 rfl
        have q1 := hbk.cell 1 rfl
        have q2 := hbk.cell 2 rfl
        have q3 := hbk.cell 3 rfl
        have q4 := hbk.cell 4 rfl
        have q5 := hbk.cell 5 rfl
        have q6 := hbk.cell 6 rfl
        have q7 := hbk.cell 7 rfl
        have q8 := hbk.cell 8 rfl
        have fq0 := hbk.free 0
        have fq1 := hbk.free 1
        have fq2 := hbk.free 2
        have fq3 := hbk.free 3
        have fq4 := hbk.free 4
        have fq5 := hbk.free 5
        have fq6 := hbk.free 6
        have fq7 := hbk.free 7
        have fq8 := hbk.free 8
        have lq := hbk.lt
        clear hbk
        go_wp2_with fail
        go_meet
        exact ⟨⟨2, V2, 0, [], 0, 0, 0, 0, 0⟩, S2, none, 0, 0, H8.out.set 1 (.int .i64 V2), by unfold rrK rdK rdKS; rw [if_neg (by decide), if_neg (by decide), if_pos (by decide), if_neg (by decide), if_pos (by decide), E2.out], rfl, by omega, World.ownsRow_nil _ _ _ _, fun k hk => by simp [Value.ownBlock] at hk, by simp only; omega⟩
      case neg =>
        by_cases k9 : V1 = 9
        case pos =>
          subst k9
          obtain ⟨V2, S2, e2⟩ : ∃ V S, numR 2 S1 = (V, S) := ⟨_, _, rfl⟩
          have R2 : ∀ x ∈ S2.getD [], 0 ≤ x ∧ x < 256 := fun x hx => R1 x (numR_sub (size := 2) x (by rw [e2]; exact hx))
          have E2 := Lib.hid e2
          clear e2
          have hbk := H3.out.g
          have q0 := hbk.cell 0 rfl
          have q1 := hbk.cell 1 rfl
          have q2 := hbk.cell 2 rfl
          have q3 := hbk.cell 3 rfl
          have q4 := hbk.cell 4 rfl
          have q5 := hbk.cell 5 rfl
          have q6 := hbk.cell 6 rfl
          have q7 := hbk.cell 7 rfl
          have q8 := hbk.cell 8 rfl
          have fq0 := hbk.free 0
          have fq1 := hbk.free 1
          have fq2 := hbk.free 2
          have fq3 := hbk.free 3
          have fq4 := hbk.free 4
          have fq5 := hbk.free 5
          have fq6 := hbk.free 6
          have fq7 := hbk.free 7
          have fq8 := hbk.free 8
          have lq := hbk.lt
          clear hbk
          go_wp2_with fail
          refine (mnum_any p _ S1 p H3.out.rd R1 2).mono ?_
          rw [E2.out]
          rintro e w10 ⟨rfl, hR, hM⟩
          have H10 := Lib.hid (H3.out.aft hR hM)
          clear hR hM
          clear q0 q1 q2 q3 q4 q5 q6 q7 q8 fq0 fq1 fq2 fq3 fq4 fq5 fq6 fq7 fq8 lq
          have hbk := H10.out.g
          have q0 := hbk.cell 0 rfl
          have q1 := hbk.cell 1 rfl
          have q2 := hbk.cell 2 rfl
          have q3 := hbk.cell 3 rfl
          have q4 := hbk.cell 4 rfl
          have q5 := hbk.cell 5 rfl
          have q6 := hbk.cell 6 rfl
          have q7 := hbk.cell 7 rfl
          have q8 := hbk.cell 8 rfl
          have fq0 := hbk.free 0
          have fq1 := hbk.free 1
          have fq2 := hbk.free 2
          have fq3 := hbk.free 3
          have fq4 := hbk.free 4
          have fq5 := hbk.free 5
          have fq6 := hbk.free 6
          have fq7 := hbk.free 7
          have fq8 := hbk.free 8
          have lq := hbk.lt
          clear hbk
          go_wp2_with fail
          go_meet
          exact ⟨⟨9, V2, 0, [], 0, 0, 0, 0, 0⟩, S2, none, 0, 0, H10.out.set 1 (.int .i64 V2), by unfold rrK rdK rdKS; rw [if_neg (by decide), if_neg (by decide), if_pos (by decide), if_neg (by decide), if_pos (by decide), E2.out], rfl, by omega, World.ownsRow_nil _ _ _ _, fun k hk => by simp [Value.ownBlock] at hk, by simp only; omega⟩
        case neg =>
          by_cases k7 : V1 = 7
          case pos =>
            subst k7
            obtain ⟨V2, S2, e2⟩ : ∃ V S, numR 1 S1 = (V, S) := ⟨_, _, rfl⟩
            have R2 : ∀ x ∈ S2.getD [], 0 ≤ x ∧ x < 256 := fun x hx => R1 x (numR_sub (size := 1) x (by rw [e2]; exact hx))
            obtain ⟨V3, S3, e3⟩ : ∃ V S, numR 2 S2 = (V, S) := ⟨_, _, rfl⟩
            have R3 : ∀ x ∈ S3.getD [], 0 ≤ x ∧ x < 256 := fun x hx => R2 x (numR_sub (size := 2) x (by rw [e3]; exact hx))
            obtain ⟨V4, S4, e4⟩ : ∃ V S, numR 5 S3 = (V, S) := ⟨_, _, rfl⟩
            have R4 : ∀ x ∈ S4.getD [], 0 ≤ x ∧ x < 256 := fun x hx => R3 x (numR_sub (size := 5) x (by rw [e4]; exact hx))
            obtain ⟨V5, S5, e5⟩ : ∃ V S, numR 5 S4 = (V, S) := ⟨_, _, rfl⟩
            have R5 : ∀ x ∈ S5.getD [], 0 ≤ x ∧ x < 256 := fun x hx => R4 x (numR_sub (size := 5) x (by rw [e5]; exact hx))
            have B3 : 0 ≤ V3 ∧ V3 ≤ 65535 := by have := numR2_bd R2; rw [e3] at this; exact this
            have B31 := B3.1
            have B32 := B3.2
            clear B3
            have E2 := Lib.hid e2
            have E3 := Lib.hid e3
            have E4 := Lib.hid e4
            have E5 := Lib.hid e5
            clear e2 e3 e4 e5
            have hbk := H3.out.g
            have q0 := hbk.cell 0 rfl
            have q1 := hbk.cell 1 rfl
            have q2 := hbk.cell 2 rfl
            have q3 := hbk.cell 3 rfl
            have q4 := hbk.cell 4 rfl
            have q5 := hbk.cell 5 rfl
            have q6 := hbk.cell 6 rfl
            have q7 := hbk.cell 7 rfl
            have q8 := hbk.cell 8 rfl
            have fq0 := hbk.free 0
            have fq1 := hbk.free 1
            have fq2 := hbk.free 2
            have fq3 := hbk.free 3
            have fq4 := hbk.free 4
            have fq5 := hbk.free 5
            have fq6 := hbk.free 6
            have fq7 := hbk.free 7
            have fq8 := hbk.free 8
            have lq := hbk.lt
            clear hbk
            go_wp2_with fail
            refine (mnum_any p _ S1 p H3.out.rd R1 1).mono ?_
            rw [E2.out]
            rintro e w12 ⟨rfl, hR, hM⟩
            have H12 := Lib.hid (H3.out.aft hR hM)
            clear hR hM
            clear q0 q1 q2 q3 q4 q5 q6 q7 q8 fq0 fq1 fq2 fq3 fq4 fq5 fq6 fq7 fq8 lq
            have hbk := H12.out.g
            have q0 := hbk.cell 0 rfl
            have q1 := hbk.cell 1 rfl
            have q2 := hbk.cell 2 rfl
            have q3 := hbk.cell 3 rfl
            have q4 := hbk.cell 4 rfl
            have q5 := hbk.cell 5 rfl
            have q6 := hbk.cell 6 rfl
            have q7 := hbk.cell 7 rfl
            have q8 := hbk.cell 8 rfl
            have fq0 := hbk.free 0
            have fq1 := hbk.free 1
            have fq2 := hbk.free 2
            have fq3 := hbk.free 3
            have fq4 := hbk.free 4
            have fq5 := hbk.free 5
            have fq6 := hbk.free 6
            have fq7 := hbk.free 7
            have fq8 := hbk.free 8
            have lq := hbk.lt
            clear hbk
            go_upto_region 19 with fail
            obtain ⟨w13, hw⟩ : ∃ W, World.setCell w12 ⟨gb, 5, none⟩ (.int .i64 V2) = W := ⟨_, rfl⟩
            rw [hw]
            clear q0 q1 q2 q3 q4 q5 q6 q7 q8 fq0 fq1 fq2 fq3 fq4 fq5 fq6 fq7 fq8 lq
            have H13 : Hid (RQ w w13 26 r gb p _ [.int .i64 7, .int .i64 0, .int .i64 0, .slice none 0 0, .int .i64 0, .int .i64 V2, .int .i64 0, .int .i64 0, .int .i64 0] [.int .i64 0, .int .i64 0, .int .i64 0, .slice none 0 0, .int .i64 0, .int .i64 0, .int .i64 0, .int .i64 0, .int .i64 0]) := Lib.hid (by rw [← hw]; exact H12.out.set 5 (.int .i64 V2))
            clear hw
            have hbk := H13.out.g
            have q0 := hbk.cell 0 rfl
            have q1 := hbk.cell 1 rfl
            have q2 := hbk.cell 2 rfl
            have q3 := hbk.cell 3 rfl
            have q4 := hbk.cell 4 rfl
            have q5 := hbk.cell 5 rfl
            have q6 := hbk.cell 6 rfl
            have q7 := hbk.cell 7 rfl
            have q8 := hbk.cell 8 rfl
            have fq0 := hbk.free 0
            have fq1 := hbk.free 1
            have fq2 := hbk.free 2
            have fq3 := hbk.free 3
            have fq4 := hbk.free 4
            have fq5 := hbk.free 5
            have fq6 := hbk.free 6
            have fq7 := hbk.free 7
            have fq8 := hbk.free 8
            have lq := hbk.lt
            clear hbk
            go_wp2_with fail
            refine (mnum_any p _ S2 p H13.out.rd R2 2).mono ?_
            rw [E3.out]
            rintro e w14 ⟨rfl, hR, hM⟩
            have H14 := Lib.hid (H13.out.aft hR hM)
            clear hR hM
            clear q0 q1 q2 q3 q4 q5 q6 q7 q8 fq0 fq1 fq2 fq3 fq4 fq5 fq6 fq7 fq8 lq
            have hbk := H14.out.g
            have q0 := hbk.cell 0 rfl
            have q1 := hbk.cell 1 rfl
            have q2 := hbk.cell 2 rfl
            have q3 := hbk.cell 3 rfl
            have q4 := hbk.cell 4 rfl
            have q5 := hbk.cell 5 rfl
            have q6 := hbk.cell 6 rfl
            have q7 := hbk.cell 7 rfl
            have q8 := hbk.cell 8 rfl
            have fq0 := hbk.free 0
            have fq1 := hbk.free 1
            have fq2 := hbk.free 2
            have fq3 := hbk.free 3
            have fq4 := hbk.free 4
            have fq5 := hbk.free 5
            have fq6 := hbk.free 6
            have fq7 := hbk.free 7
            have fq8 := hbk.free 8
            have lq := hbk.lt
            clear hbk
            go_upto_region 20 with fail
            obtain ⟨w15, hw⟩ : ∃ W, World.setCell w14 ⟨gb, 6, none⟩ (.int .i64 (V3 - 1)) = W := ⟨_, rfl⟩
            rw [hw]
            clear q0 q1 q2 q3 q4 q5 q6 q7 q8 fq0 fq1 fq2 fq3 fq4 fq5 fq6 fq7 fq8 lq
            have H15 : Hid (RQ w w15 26 r gb p _ [.int .i64 7, .int .i64 0, .int .i64 0, .slice none 0 0, .int .i64 0, .int .i64 V2, .int .i64 (V3 - 1), .int .i64 0, .int .i64 0] [.int .i64 0, .int .i64 0, .int .i64 0, .slice none 0 0, .int .i64 0, .int .i64 0, .int .i64 0, .int .i64 0, .int .i64 0]) := Lib.hid (by rw [← hw]; exact H14.out.set 6 (.int .i64 (V3 - 1)))
            clear hw
            have hbk := H15.out.g
            have q0 := hbk.cell 0 rfl
            have q1 := hbk.cell 1 rfl
            have q2 := hbk.cell 2 rfl
            have q3 := hbk.cell 3 rfl
            have q4 := hbk.cell 4 rfl
            have q5 := hbk.cell 5 rfl
            have q6 := hbk.cell 6 rfl
            have q7 := hbk.cell 7 rfl
            have q8 := hbk.cell 8 rfl
            have fq0 := hbk.free 0
            have fq1 := hbk.free 1
            have fq2 := hbk.free 2
            have fq3 := hbk.free 3
            have fq4 := hbk.free 4
            have fq5 := hbk.free 5
            have fq6 := hbk.free 6
            have fq7 := hbk.free 7
            have fq8 := hbk.free 8
            have lq := hbk.lt
            clear hbk
            go_wp2_with fail
            refine (mnum_any p _ S3 p H15.out.rd R3 5).mono ?_
            rw [E4.out]
            rintro e w16 ⟨rfl, hR, hM⟩
            have H16 := Lib.hid (H15.out.aft hR hM)
            clear hR hM
            clear q0 q1 q2 q3 q4 q5 q6 q7 q8 fq0 fq1 fq2 fq3 fq4 fq5 fq6 fq7 fq8 lq
            have hbk := H16.out.g
            have q0 := hbk.cell 0 rfl
            have q1 := hbk.cell 1 rfl
            have q2 := hbk.cell 2 rfl
            have q3 := hbk.cell 3 rfl
            have q4 := hbk.cell 4 rfl
            have q5 := hbk.cell 5 rfl
            have q6 := hbk.cell 6 rfl
            have q7 := hbk.cell 7 rfl
            have q8 := hbk.cell 8 rfl
            have fq0 := hbk.free 0
            have fq1 := hbk.free 1
            have fq2 := hbk.free 2
            have fq3 := hbk.free 3
            have fq4 := hbk.free 4
            have fq5 := hbk.free 5
            have fq6 := hbk.free 6
            have fq7 := hbk.free 7
            have fq8 := hbk.free 8
            have lq := hbk.lt
            clear hbk
            go_upto_region 21 with fail
            obtain ⟨w17, hw⟩ : ∃ W, World.setCell w16 ⟨gb, 7, none⟩ (.int .i64 V4) = W := ⟨_, rfl⟩
            rw [hw]
            clear q0 q1 q2 q3 q4 q5 q6 q7 q8 fq0 fq1 fq2 fq3 fq4 fq5 fq6 fq7 fq8 lq
            have H17 : Hid (RQ w w17 26 r gb p _ [.int .i64 7, .int .i64 0, .int .i64 0, .slice none 0 0, .int .i64 0, .int .i64 V2, .int .i64 (V3 - 1), .int .i64 V4, .int .i64 0] [.int .i64 0, .int .i64 0, .int .i64 0, .slice none 0 0, .int .i64 0, .int .i64 0, .int .i64 0, .int .i64 0, .int .i64 0]) := Lib.hid (by rw [← hw]; exact H16.out.set 7 (.int .i64 V4))
            clear hw
            have hbk := H17.out.g
            have q0 := hbk.cell 0 rfl
            have q1 := hbk.cell 1 rfl
            have q2 := hbk.cell 2 rfl
            have q3 := hbk.cell 3 rfl
            have q4 := hbk.cell 4 rfl
            have q5 := hbk.cell 5 rfl
            have q6 := hbk.cell 6 rfl
            have q7 := hbk.cell 7 rfl
            have q8 := hbk.cell 8 rfl
            have fq0 := hbk.free 0
            have fq1 := hbk.free 1
            have fq2 := hbk.free 2
            have fq3 := hbk.free 3
            have fq4 := hbk.free 4
            have fq5 := hbk.free 5
            have fq6 := hbk.free 6
            have fq7 := hbk.free 7
            have fq8 := hbk.free 8
            have lq := hbk.lt
            clear hbk
            go_wp2_with fail
            refine (mnum_any p _ S4 p H17.out.rd R4 5).mono ?_
            rw [E5.out]
            rintro e w18 ⟨rfl, hR, hM⟩
            have H18 := Lib.hid (H17.out.aft hR hM)
            clear hR hM
            clear q0 q1 q2 q3 q4 q5 q6 q7 q8 fq0 fq1 fq2 fq3 fq4 fq5 fq6 fq7 fq8 lq
            have hbk := H18.out.g
            have q0 := hbk.cell 0 rfl
            have q1 := hbk.cell 1 rfl
            have q2 := hbk.cell 2 rfl
            have q3 := hbk.cell 3 rfl
            have q4 := hbk.cell 4 rfl
            have q5 := hbk.cell 5 rfl
            have q6 := hbk.cell 6 rfl
            have q7 := hbk.cell 7 rfl
            have q8 := hbk.cell 8 rfl
            have fq0 := hbk.free 0
            have fq1 := hbk.free 1
            have fq2 := hbk.free 2
            have fq3 := hbk.free 3
            have fq4 := hbk.free 4
            have fq5 := hbk.free 5
            have fq6 := hbk.free 6
            have fq7 := hbk.free 7
            have fq8 := hbk.free 8
            have lq := hbk.lt
            clear hbk
            go_wp2_with fail
            go_meet
            exact ⟨⟨7, 0, 0, [], 0, V2, V3 - 1, V4, V5⟩, S5, none, 0, 0, H18.out.set 8 (.int .i64 V5), by unfold rrK rdK rdKS; rw [if_neg (by decide), if_neg (by decide), if_neg (by decide), if_neg (by decide), if_pos rfl, if_neg (by decide), if_neg (by decide), if_neg (by decide), if_pos rfl, E2.out]; simp only; rw [E3.out]; simp only; rw [E4.out]; simp only; rw [E5.out], rfl, by omega, World.ownsRow_nil _ _ _ _, fun k hk => by simp [Value.ownBlock] at hk, by simp only; omega⟩
          case neg =>
            by_cases k5 : V1 = 5
            case pos =>
              subst k5
              obtain ⟨V2, S2, e2⟩ : ∃ V S, numR 5 S1 = (V, S) := ⟨_, _, rfl⟩
              have R2 : ∀ x ∈ S2.getD [], 0 ≤ x ∧ x < 256 := fun x hx => R1 x (numR_sub (size := 5) x (by rw [e2]; exact hx))
              obtain ⟨V3, S3, e3⟩ : ∃ V S, numR 2 S2 = (V, S) := ⟨_, _, rfl⟩
              have R3 : ∀ x ∈ S3.getD [], 0 ≤ x ∧ x < 256 := fun x hx => R2 x (numR_sub (size := 2) x (by rw [e3]; exact hx))
              have B3 : 0 ≤ V3 ∧ V3 ≤ 65535 := by have := numR2_bd R2; rw [e3] at this; exact this
              obtain ⟨N, hN⟩ := Int.eq_ofNat_of_zero_le B3.1
              have hNb : N ≤ 65535 := by have := B3.2; omega
              subst hN
              clear B3
              obtain ⟨RR, hRR⟩ : ∃ x, rdFs S2 = x := ⟨_, rfl⟩
              have hst : rdF N S3 [] = RR := by rw [← hRR]; unfold rdFs; rw [e3]; rfl
              have HPK : Hid (rrK 5 S1 = (⟨5, 0, 0, RR.1, V2, 0, 0, 0, 0⟩, RR.2)) := Lib.hid (by unfold rrK; rw [if_pos rfl, e2]; simp only; rw [hRR])
              have HST := Lib.hid hst
              clear hst hRR
              have E2 := Lib.hid e2
              have E3 := Lib.hid e3
              clear e2 e3
              have hbk := H3.out.g
              have q0 := hbk.cell 0 rfl
              have q1 := hbk.cell 1 rfl
              have q2 := hbk.cell 2 rfl
              have q3 := hbk.cell 3 rfl
              have q4 := hbk.cell 4 rfl
              have q5 := hbk.cell 5 rfl
              have q6 := hbk.cell 6 rfl
              have q7 := hbk.cell 7 rfl
              have q8 := hbk.cell 8 rfl
              have fq0 := hbk.free 0
              have fq1 := hbk.free 1
              have fq2 := hbk.free 2
              have fq3 := hbk.free 3
              have fq4 := hbk.free 4
              have fq5 := hbk.free 5
              have fq6 := hbk.free 6
              have fq7 := hbk.free 7
              have fq8 := hbk.free 8
              have lq := hbk.lt
              clear hbk
              go_wp2_with fail
              refine (mnum_any p _ S1 p H3.out.rd R1 5).mono ?_
              rw [E2.out]
              rintro e w20 ⟨rfl, hR, hM⟩
              have H20 := Lib.hid (H3.out.aft hR hM)
              clear hR hM
              clear q0 q1 q2 q3 q4 q5 q6 q7 q8 fq0 fq1 fq2 fq3 fq4 fq5 fq6 fq7 fq8 lq
              have hbk := H20.out.g
              have q0 := hbk.cell 0 rfl
              have q1 := hbk.cell 1 rfl
              have q2 := hbk.cell 2 rfl
              have q3 := hbk.cell 3 rfl
              have q4 := hbk.cell 4 rfl
              have q5 := hbk.cell 5 rfl
              have q6 := hbk.cell 6 rfl
              have q7 := hbk.cell 7 rfl
              have q8 := hbk.cell 8 rfl
              have fq0 := hbk.free 0
              have fq1 := hbk.free 1
              have fq2 := hbk.free 2
              have fq3 := hbk.free 3
              have fq4 := hbk.free 4
              have fq5 := hbk.free 5
              have fq6 := hbk.free 6
              have fq7 := hbk.free 7
              have fq8 := hbk.free 8
              have lq := hbk.lt
              clear hbk
              go_upto_region 12 with fail
              obtain ⟨w21, hw⟩ : ∃ W, World.setCell w20 ⟨gb, 4, none⟩ (.int .i64 V2) = W := ⟨_, rfl⟩
              rw [hw]
              clear q0 q1 q2 q3 q4 q5 q6 q7 q8 fq0 fq1 fq2 fq3 fq4 fq5 fq6 fq7 fq8 lq
              have H21 : Hid (RQ w w21 26 r gb p _ [.int .i64 5, .int .i64 0, .int .i64 0, .slice none 0 0, .int .i64 V2, .int .i64 0, .int .i64 0, .int .i64 0, .int .i64 0] [.int .i64 0, .int .i64 0, .int .i64 0, .slice none 0 0, .int .i64 0, .int .i64 0, .int .i64 0, .int .i64 0, .int .i64 0]) := Lib.hid (by rw [← hw]; exact H20.out.set 4 (.int .i64 V2))
              clear hw
              have hbk := H21.out.g
              have q0 := hbk.cell 0 rfl
              have q1 := hbk.cell 1 rfl
              have q2 := hbk.cell 2 rfl
              have q3 := hbk.cell 3 rfl
              have q4 := hbk.cell 4 rfl
              have q5 := hbk.cell 5 rfl
              have q6 := hbk.cell 6 rfl
              have q7 := hbk.cell 7 rfl
              have q8 := hbk.cell 8 rfl
              have fq0 := hbk.free 0
              have fq1 := hbk.free 1
              have fq2 := hbk.free 2
              have fq3 := hbk.free 3
              have fq4 := hbk.free 4
              have fq5 := hbk.free 5
              have fq6 := hbk.free 6
              have fq7 := hbk.free 7
              have fq8 := hbk.free 8
              have lq := hbk.lt
              clear hbk
              go_wp2_with fail
              refine (mnum_any p _ S2 p H21.out.rd R2 2).mono ?_
              rw [E3.out]
              rintro e w22 ⟨rfl, hR, hM⟩
              have H22 := Lib.hid (H21.out.aft hR hM)
              clear hR hM
              clear q0 q1 q2 q3 q4 q5 q6 q7 q8 fq0 fq1 fq2 fq3 fq4 fq5 fq6 fq7 fq8 lq
              have hbk := H22.out.g
              have q0 := hbk.cell 0 rfl
              have q1 := hbk.cell 1 rfl
              have q2 := hbk.cell 2 rfl
              have q3 := hbk.cell 3 rfl
              have q4 := hbk.cell 4 rfl
              have q5 := hbk.cell 5 rfl
              have q6 := hbk.cell 6 rfl
              have q7 := hbk.cell 7 rfl
              have q8 := hbk.cell 8 rfl
              have lq := hbk.lt
              clear hbk
              go_wp2_with fail
              clear q0 q1 q2 q3 q4 q5 q6 q7 q8 lq
              go_loopw [7] (fun iv wr => ∃ (j : Nat) (S : RS2) (acc : List Int) (ag : Option Addr) (cg : Nat), iv = .int .i64 j ∧ j ≤ N ∧ RE w wr r gb p S V2 [.int .i64 0, .int .i64 0, .int .i64 0, .slice none 0 0, .int .i64 0, .int .i64 0, .int .i64 0, .int .i64 0, .int .i64 0] ag j cg acc ∧ acc.length = j ∧ (∀ x ∈ S.getD [], 0 ≤ x ∧ x < 256) ∧ rdF (N - j) S acc = RR) (fun iv _ => N - (intOf iv).toNat)
              case atStart => exact ⟨0, S3, [], none, 0, rfl, by omega, ⟨H22.out, World.ownsRow_nil _ _ _ _, fun k hk => by simp [Value.ownBlock] at hk⟩, rfl, R3, HST.out⟩
              case round =>
                obtain ⟨j, S, acc, ag, cg, rfl, hj, hre, hal, hrs, heq⟩ := hrel
                have HRE := Lib.hid hre
                have HAL := Lib.hid hal
                have HRS := Lib.hid hrs
                have HEQ := Lib.hid heq
                have hbad : wr.cell? ⟨p, 1, none⟩ = some (.bool S.isNone) := by obtain ⟨v, bs, hb, _⟩ := hre.rq.rd; exact hb.cell 1 rfl
                have hpl2 : p < wr.heap.size := by obtain ⟨v, bs, hb, _⟩ := hre.rq.rd; exact hb.lt
                clear hre hal hrs heq
                by_cases hlt : j < N
                case neg =>
                  have z0 : decide ((j : Int) < (N : Int)) = false := by simp; omega
                  have z1 : decide (j < N) = false := by simp; omega
                  have hrr : RR = (acc, S) := by rw [← HEQ.out, show N - j = 0 by omega]; rfl
                  have HRR := Lib.hid hrr
                  clear hrr
                  go_wp2_with fail
                  go_meet
                  have hrr := HRR.out
                  exact ⟨⟨5, 0, 0, acc, V2, 0, 0, 0, 0⟩, S, ag, j, cg, HRE.out.rq, by rw [HPK.out, hrr], HAL.out, by omega, HRE.out.own, HRE.out.hi, by simp only; omega⟩
                case pos =>
                  have z0 : decide ((j : Int) < (N : Int)) = true := by simp; omega
                  have z1 : decide (j < N) = true := by simp; omega
                  cases hsn : S.isNone with
                  | true =>
                    rw [hsn] at hbad
                    have hrr : RR = (acc, S) := by rw [← HEQ.out]; cases S with | none => exact rdF_none _ _ | some l => cases hsn
                    have HRR := Lib.hid hrr
                    clear hrr hsn
                    go_wp2_with fail
                    go_meet
                    have hrr := HRR.out
                    exact ⟨⟨5, 0, 0, acc, V2, 0, 0, 0, 0⟩, S, ag, j, cg, HRE.out.rq, by rw [HPK.out, hrr], HAL.out, by omega, HRE.out.own, HRE.out.hi, by simp only; omega⟩
                  | false =>
                    rw [hsn] at hbad
                    have hstep : rdF (N - (j + 1)) (numR 2 S).2 (acc ++ [(numR 2 S).1]) = RR := by have h := HEQ.out; rw [show N - j = (N - (j + 1)) + 1 by omega, rdF_step hsn] at h; exact h
                    obtain ⟨y, S9, hy⟩ : ∃ V S9, numR 2 S = (V, S9) := ⟨_, _, rfl⟩
                    rw [hy] at hstep
                    replace hstep : rdF (N - (j + 1)) S9 (acc ++ [y]) = RR := hstep
                    have hrs9 : ∀ x ∈ S9.getD [], 0 ≤ x ∧ x < 256 := fun x hx => HRS.out x (numR_sub (size := 2) x (by rw [hy]; exact hx))
                    have HSTEP := Lib.hid hstep
                    have HRS9 := Lib.hid hrs9
                    have HY := Lib.hid hy
                    clear hsn hstep hrs9 hy
                    have hmx1 : j + 1 ≤ maxLen := by unfold maxLen; omega
                    have hmx2 : (j + 1) * 8 ≤ 140737488355328 := by omega
                    have qg3 := HRE.out.rq.g.cell 3 rfl
                    have fg3 := HRE.out.rq.g.free 3
                    have lg := HRE.out.rq.g.lt
                    go_upto_region 16 with fail
                    go_region_law (first | (refine step_append_any rfl (.tmp 52) (.tmp 55) 22 rfl 3 iI (.int .i64 0) 1 8 Try.underlying22 hiI hzI hsI hbI rfl (by decide) (.slice ag j cg) j (acc.map (Value.int .i64)) (by simp [Act.eval, Act.put]) (by exact hownb) (.slice (some ⟨wb.heap.size, 0, none⟩) 1 1) 1 [.int .i64 y] (by simp [Act.eval, Act.put]) (by exact Rd.litN 3 1 [.int .i64 y] (0, 0) _ 1 rfl rfl (by decide)) (by simp [Value.oneCell']) hmx1 hmx2 ?_; intro v' w' hap; obtain ⟨a3, c3, rfl⟩ := hap.form; have hgw := HRC.out.rq.g.keep hap.mod (fun e => by have h1 := HRC.out.hi _ e; omega); have qw3 := hgw.cell 3 rfl; have fw3 := hgw.free 3; have lw := hgw.lt; have HAP := Lib.hid hap; clear hap hgw) | (go_simp; go_at_call 30; refine (mnum_any p (World.drew wr) S p (HRE.out.keep (Mod.drew _ _)).rq.rd HRS.out 2).mono ?_; rw [HY.out]; rintro e wb ⟨rfl, hmrb, hmb⟩; have hrb := (HRE.out.keep (Mod.drew _ _)).num hmrb hmb; have qb3 := hrb.rq.g.cell 3 rfl; have fb3 := hrb.rq.g.free 3; have lb := hrb.rq.g.lt; have hrc := hrb.keep (Mod.alloc (fun _ => False) wb (.cells #[.int .i64 y] 3)); have hownb := hrc.own; have HRC := Lib.hid hrc; clear hrb hmrb hmb hrc))
                    all_goals
                      go_wp2
                      go_roundw
                      case rel => exact ⟨j + 1, S9, acc ++ [y], _, _, by go_num, hlt, HRC.out.push HAP.out, by rw [List.length_append, HAL.out]; rfl, HRS9.out, HSTEP.out⟩
                      case measure => simp [intOf]; omega
            case neg =>
              have z1 : (V1 == 1) = false := beq_eq_false_iff_ne.2 k1
              have z2 : (V1 == 2) = false := beq_eq_false_iff_ne.2 k2
              have z9 : (V1 == 9) = false := beq_eq_false_iff_ne.2 k9
              have z5 : (V1 == 5) = false := beq_eq_false_iff_ne.2 k5
              have z7 : (V1 == 7) = false := beq_eq_false_iff_ne.2 k7
              have HPK : Hid (rrK V1 S1 = (⟨V1, 0, 0, [], 0, 0, 0, 0, 0⟩, S1)) := Lib.hid (by unfold rrK rdK rdKS; rw [if_neg k5, if_neg k1, if_neg (fun h => h.elim k2 k9), if_neg k5, if_neg k7, if_neg k1, if_neg (fun h => h.elim k2 k9), if_neg k5, if_neg k7])
              clear k1 k2 k9 k5 k7
              have hbk := H3.out.g
              have q0 := hbk.cell 0 rfl
              have q1 := hbk.cell 1 rfl
              have q2 := hbk.cell 2 rfl
              have q3 := hbk.cell 3 rfl
              have q4 := hbk.cell 4 rfl
              have q5 := hbk.cell 5 rfl
              have q6 := hbk.cell 6 rfl
              have q7 := hbk.cell 7 rfl
              have q8 := hbk.cell 8 rfl
              have lq := hbk.lt
              clear hbk
              go_wp2_with fail
              go_meet
              exact ⟨⟨V1, 0, 0, [], 0, 0, 0, 0, 0⟩, S1, none, 0, 0, H3.out, by exact HPK.out, rfl, by omega, World.ownsRow_nil _ _ _ _, fun k hk => by simp [Value.ownBlock] at hk, by simp only; omega⟩
  case rest =>
    obtain ⟨⟨mk, mp, md, ed, mw, mc, me, mf, ml⟩, S, ax, nx, cx, hrq, hrr, hel, hnx, hown, hhi, hhe⟩ := hcut
    simp only at hrq hel hown hhe
    have hrm := HRM.out.trans hrr
    have hyes : S = some [] → mBytes ⟨mk, mp, md, ed, mw, mc, me, mf, ml⟩ = some b → decM b = (⟨mk, mp, md, ed, mw, mc, me, mf, ml⟩, 0) := fun _ h2 => by have h := rr_yes (b := b) (by rw [hrm]; exact h2); rw [h, hrm]
    have hno : ¬ (S = some [] ∧ mBytes ⟨mk, mp, md, ed, mw, mc, me, mf, ml⟩ = some b) → decM b = (zM, 2) := fun h => rr_no (by rw [hrm]; exact h)
    have HYES := Lib.hid hyes
    have HNO := Lib.hid hno
    have HRQ := Lib.hid hrq
    have HEL := Lib.hid hel
    have HOW := Lib.hid hown
    have HHI := Lib.hid hhi
    have HHE := Lib.hid hhe
    have hrw2 := hrq.lr
    have hrgb : r < gb := by have h1 := hrq.pg; have h2 := hrq.rp; omega
    clear hyes hno hrq hrr hrm hel hown hhi hhe
    have hbk := HRQ.out.g
    have q0 := hbk.cell 0 rfl
    have q1 := hbk.cell 1 rfl
    have q2 := hbk.cell 2 rfl
    have q3 := hbk.cell 3 rfl
    have q4 := hbk.cell 4 rfl
    have q5 := hbk.cell 5 rfl
    have q6 := hbk.cell 6 rfl
    have q7 := hbk.cell 7 rfl
    have q8 := hbk.cell 8 rfl
    have lq := hbk.lt
    clear hbk
    have h0 := rmsg_any wc ⟨mk, mp, md, ed, mw, mc, me, mf, ml⟩ ax nx cx HEL.out (Rd.ofOwn HOW.out) HHE.out (by omega)
    unfold msgV at h0
    simp only at h0
    have CM := Lib.hid h0
    clear h0
    go_wp2_with fail
    refine CM.out.mono ?_
    rintro e w8 ⟨a8, c8, rfl, hF, hM⟩
    have HQ8 := Lib.hid (HRQ.out.keep0 hM)
    have HOW8 := Lib.hid (Own.keep HOW.out hM (fun _ _ e => e))
    clear CM hM
    clear q0 q1 q2 q3 q4 q5 q6 q7 q8 lq
    obtain ⟨en, hen⟩ : ∃ x, mBytes ⟨mk, mp, md, ed, mw, mc, me, mf, ml⟩ = x := ⟨_, rfl⟩
    rw [hen] at hF HYES HNO ⊢
    have HEN := Lib.hid hen
    clear hen
    obtain ⟨L, hL⟩ : ∃ x, (en.getD []).length = x := ⟨_, rfl⟩
    have hx8 : Rd w8 1 (.slice a8 L c8) L ((en.getD []).map (Value.int .u8)) := by have h := Rd.ofOwn hF; rw [hL] at h; exact h
    rw [hL]
    clear hL hF
    have k1 := run_strS w8 27 9 5 Try.underlying27 Try.underlying5 Try.underlying9 hx8
    have hrb8 : Rd w8 1 (.slice a n c) n (b.map (Value.int .u8)) := hrin.out.keep HQ8.out.mod (fun _ _ e => e)
    have k1 := run_strS w8 27 9 5 Try.underlying27 Try.underlying5 Try.underlying9 hx8
    have k2 := run_strS w8 27 9 5 Try.underlying27 Try.underlying5 Try.underlying9 hrb8
    obtain ⟨sa, hsa⟩ : ∃ x, strOf (en.getD []) = x := ⟨_, rfl⟩
    obtain ⟨sb, hsb⟩ : ∃ x, strOf b = x := ⟨_, rfl⟩
    rw [hsa] at k1
    rw [hsb] at k2
    have HSA := Lib.hid hsa
    have HSB := Lib.hid hsb
    clear hsa hsb hx8 hrb8
    go_wp2_with fail
    refine (mdone_any p _ S p HQ8.out.rd).mono ?_
    rintro e w' ⟨rfl, rfl⟩
    by_cases hs : S = some []
    case neg =>
      rw [decide_eq_false hs]
      have HD := Lib.hid (HNO.out (fun h => hs h.1))
      clear hs
      have hbk := HQ8.out.z
      have z0 := hbk.cell 0 rfl
      have z1 := hbk.cell 1 rfl
      have z2 := hbk.cell 2 rfl
      have z3 := hbk.cell 3 rfl
      have z4 := hbk.cell 4 rfl
      have z5 := hbk.cell 5 rfl
      have z6 := hbk.cell 6 rfl
      have z7 := hbk.cell 7 rfl
      have z8 := hbk.cell 8 rfl
      have f0 := hbk.free 0
      have f1 := hbk.free 1
      have f2 := hbk.free 2
      have f3 := hbk.free 3
      have f4 := hbk.free 4
      have f5 := hbk.free 5
      have f6 := hbk.free 6
      have f7 := hbk.free 7
      have f8 := hbk.free 8
      have lz := hbk.lt
      clear hbk
      go_wp2_with fail
      have b2 := (((((((((HQ8.out.z.set 0 (.int .i64 0)).set 1 (.int .i64 0)).set 2 (.int .i64 0)).set 3 (.slice none 0 0)).set 4 (.int .i64 0)).set 5 (.int .i64 0)).set 6 (.int .i64 0)).set 7 (.int .i64 0)).set 8 (.int .i64 0))
      have k2 := Mod.set9 w8 r (.int .i64 0) (.int .i64 0) (.int .i64 0) (.slice none 0 0) (.int .i64 0) (.int .i64 0) (.int .i64 0) (.int .i64 0) (.int .i64 0)
      (try simp only [Exit.inBlock, Exit.then])
      refine bodyPost_ret (results_row_tmp rfl _ _ r 26 #[.int .i64 0, .int .i64 0, .int .i64 0, .slice none 0 0, .int .i64 0, .int .i64 0, .int .i64 0, .int .i64 0, .int .i64 0] (0, 0) _ rfl b2 Try.underlying26 rfl (by kernel_rfl)) rfl ?_
      exact ⟨none, 0, by rw [HD.out]; rfl, by rw [HD.out]; exact World.ownsRow_nil _ _ _ _, HQ8.out.mod.old k2 (fun i hi => by rw [hi]; exact hrw)⟩
    case pos =>
      rw [decide_eq_true hs]
      have HS := Lib.hid hs
      clear hs
      cases en with
      | none =>
        have HD := Lib.hid (HNO.out (fun h => by have h2 := h.2; cases h2))
        simp only [Option.isSome_none]
        have hbk := HQ8.out.z
        have z0 := hbk.cell 0 rfl
        have z1 := hbk.cell 1 rfl
        have z2 := hbk.cell 2 rfl
        have z3 := hbk.cell 3 rfl
        have z4 := hbk.cell 4 rfl
        have z5 := hbk.cell 5 rfl
        have z6 := hbk.cell 6 rfl
        have z7 := hbk.cell 7 rfl
        have z8 := hbk.cell 8 rfl
        have f0 := hbk.free 0
        have f1 := hbk.free 1
        have f2 := hbk.free 2
        have f3 := hbk.free 3
        have f4 := hbk.free 4
        have f5 := hbk.free 5
        have f6 := hbk.free 6
        have f7 := hbk.free 7
        have f8 := hbk.free 8
        have lz := hbk.lt
        clear hbk
        go_wp2_with fail
        have b2 := (((((((((HQ8.out.z.set 0 (.int .i64 0)).set 1 (.int .i64 0)).set 2 (.int .i64 0)).set 3 (.slice none 0 0)).set 4 (.int .i64 0)).set 5 (.int .i64 0)).set 6 (.int .i64 0)).set 7 (.int .i64 0)).set 8 (.int .i64 0))
        have k2 := Mod.set9 w8 r (.int .i64 0) (.int .i64 0) (.int .i64 0) (.slice none 0 0) (.int .i64 0) (.int .i64 0) (.int .i64 0) (.int .i64 0) (.int .i64 0)
        (try simp only [Exit.inBlock, Exit.then])
        refine bodyPost_ret (results_row_tmp rfl _ _ r 26 #[.int .i64 0, .int .i64 0, .int .i64 0, .slice none 0 0, .int .i64 0, .int .i64 0, .int .i64 0, .int .i64 0, .int .i64 0] (0, 0) _ rfl b2 Try.underlying26 rfl (by kernel_rfl)) rfl ?_
        exact ⟨none, 0, by rw [HD.out]; rfl, by rw [HD.out]; exact World.ownsRow_nil _ _ _ _, HQ8.out.mod.old k2 (fun i hi => by rw [hi]; exact hrw)⟩
      | some bs =>
        simp only [Option.isSome_some]
        by_cases hq : bs = b
        case neg =>
          have HD := Lib.hid (HNO.out (fun h => hq (Option.some.inj h.2)))
          have hxy : (sa.toList == sb.toList) = false := by rw [← beq_toListBytes, ← HSA.out, ← HSB.out]; exact bytes_beq_ne3 (fun e => hq (strOf_inj3 (mBytes_range HEN.out) HB.out e))
          clear hq
          have hbk := HQ8.out.z
          have z0 := hbk.cell 0 rfl
          have z1 := hbk.cell 1 rfl
          have z2 := hbk.cell 2 rfl
          have z3 := hbk.cell 3 rfl
          have z4 := hbk.cell 4 rfl
          have z5 := hbk.cell 5 rfl
          have z6 := hbk.cell 6 rfl
          have z7 := hbk.cell 7 rfl
          have z8 := hbk.cell 8 rfl
          have f0 := hbk.free 0
          have f1 := hbk.free 1
          have f2 := hbk.free 2
          have f3 := hbk.free 3
          have f4 := hbk.free 4
          have f5 := hbk.free 5
          have f6 := hbk.free 6
          have f7 := hbk.free 7
          have f8 := hbk.free 8
          have lz := hbk.lt
          clear hbk
          go_wp2_with fail
          have b2 := (((((((((HQ8.out.z.set 0 (.int .i64 0)).set 1 (.int .i64 0)).set 2 (.int .i64 0)).set 3 (.slice none 0 0)).set 4 (.int .i64 0)).set 5 (.int .i64 0)).set 6 (.int .i64 0)).set 7 (.int .i64 0)).set 8 (.int .i64 0))
          have k2 := Mod.set9 w8 r (.int .i64 0) (.int .i64 0) (.int .i64 0) (.slice none 0 0) (.int .i64 0) (.int .i64 0) (.int .i64 0) (.int .i64 0) (.int .i64 0)
          (try simp only [Exit.inBlock, Exit.then])
          refine bodyPost_ret (results_row_tmp rfl _ _ r 26 #[.int .i64 0, .int .i64 0, .int .i64 0, .slice none 0 0, .int .i64 0, .int .i64 0, .int .i64 0, .int .i64 0, .int .i64 0] (0, 0) _ rfl b2 Try.underlying26 rfl (by kernel_rfl)) rfl ?_
          exact ⟨none, 0, by rw [HD.out]; rfl, by rw [HD.out]; exact World.ownsRow_nil _ _ _ _, HQ8.out.mod.old k2 (fun i hi => by rw [hi]; exact hrw)⟩
        case pos =>
          have HD := Lib.hid (HYES.out HS.out (by rw [hq]))
          have hss : sa = sb := by rw [← HSA.out, ← HSB.out, ← hq]; rfl
          subst hss
          clear hq
          have hbk := HQ8.out.z
          have z0 := hbk.cell 0 rfl
          have z1 := hbk.cell 1 rfl
          have z2 := hbk.cell 2 rfl
          have z3 := hbk.cell 3 rfl
          have z4 := hbk.cell 4 rfl
          have z5 := hbk.cell 5 rfl
          have z6 := hbk.cell 6 rfl
          have z7 := hbk.cell 7 rfl
          have z8 := hbk.cell 8 rfl
          have f0 := hbk.free 0
          have f1 := hbk.free 1
          have f2 := hbk.free 2
          have f3 := hbk.free 3
          have f4 := hbk.free 4
          have f5 := hbk.free 5
          have f6 := hbk.free 6
          have f7 := hbk.free 7
          have f8 := hbk.free 8
          have lz := hbk.lt
          clear hbk
          have hbk := HQ8.out.g
          have q0 := hbk.cell 0 rfl
          have q1 := hbk.cell 1 rfl
          have q2 := hbk.cell 2 rfl
          have q3 := hbk.cell 3 rfl
          have q4 := hbk.cell 4 rfl
          have q5 := hbk.cell 5 rfl
          have q6 := hbk.cell 6 rfl
          have q7 := hbk.cell 7 rfl
          have q8 := hbk.cell 8 rfl
          have lq := hbk.lt
          clear hbk
          go_wp2_with fail
          have b2 := (((((((((HQ8.out.z.set 0 (.int .i64 mk)).set 1 (.int .i64 mp)).set 2 (.int .i64 md)).set 3 (.slice ax nx cx)).set 4 (.int .i64 mw)).set 5 (.int .i64 mc)).set 6 (.int .i64 me)).set 7 (.int .i64 mf)).set 8 (.int .i64 ml))
          have k2 := Mod.set9 w8 r (.int .i64 mk) (.int .i64 mp) (.int .i64 md) (.slice ax nx cx) (.int .i64 mw) (.int .i64 mc) (.int .i64 me) (.int .i64 mf) (.int .i64 ml)
          (try simp only [Exit.inBlock, Exit.then])
          refine bodyPost_ret (results_row_tmp rfl _ _ r 26 #[.int .i64 mk, .int .i64 mp, .int .i64 md, .slice ax nx cx, .int .i64 mw, .int .i64 mc, .int .i64 me, .int .i64 mf, .int .i64 ml] (0, 0) _ rfl b2 Try.underlying26 rfl (by kernel_rfl)) rfl ?_
          have hz := HQ8.out.mod.old k2 (fun i hi => by rw [hi]; exact hrw)
          have hel := HEL.out
          subst hel
          refine ⟨ax, cx, by rw [HD.out]; rfl, ?_, hz⟩
          rw [HD.out]
          have ho := Own.keep HOW8.out k2 (fun k hk e => by have h1 := HHI.out k hk; omega)
          exact Own.rebase ho (B := w.heap.size) (fun k hk => by have h1 := HHI.out k hk; omega)
end Go.Proofs.Ytabfmnlpipbegaa
