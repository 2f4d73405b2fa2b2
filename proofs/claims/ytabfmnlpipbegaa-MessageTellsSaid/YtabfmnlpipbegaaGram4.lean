/- The reference's Gram by contract. -/
import Derived.Test.YtabfmnlpipbegaaGram1
import Derived.Test.YtabfmnlpipbegaaRefG
import Derived.Test.YtabfmnlpipbegaaFr4
import Derived.Deep.DeepCutAuto
import Derived.Deep.CutBlock
import Derived.Deep.AppendLies
namespace Go.Proofs.Ytabfmnlpipbegaa
open Go.RowKit Mile
set_option maxRecDepth 100000
structure MWSt (w W : World) (p : Nat) (m : Bool × List Int) (F : Nat → Prop) : Prop where
  m : MW W p m.1 m.2 F
  low : ∀ k, F k → w.heap.size ≤ k
  mod : Mod (fun _ => False) w W
theorem MWSt.aft {w W W' : World} {p : Nat} {s s' : Bool × List Int} {F F' : Nat → Prop} (h : MWSt w W p s F) (hO : MW W' p s'.1 s'.2 F') (ha : After W W' F F') : MWSt w W' p s' F' :=
  ⟨hO, fun k hk => (ha.2 k hk).elim (h.low k) (fun e => Nat.le_trans h.mod.size e), h.mod.trans ha.1 (fun _ _ e => e) (fun i hi e => by have := h.low i e; omega)⟩
theorem MWSt.drew {w W : World} {p : Nat} {s : Bool × List Int} {F : Nat → Prop} (h : MWSt w W p s F) : MWSt w W.drew p s F := ⟨h.m.drew, h.low, h.mod.thenDrew⟩
/-- What the reference's Writer holds, beside ours. -/
def RelM (s : Option (List Int)) (m : Bool × List Int) : Prop := m.1 = s.isNone ∧ ∀ bs, s = some bs → m.2 = bs
theorem RelM.num {s : Option (List Int)} {m : Bool × List Int} (h : RelM s m) (size n : Int) : RelM (numsS size [n] s) (mNum size n m) := by
  obtain ⟨h1, h2⟩ := h
  cases s with
  | none =>
    have e : numsS size [n] none = none := rfl
    rw [e]
    refine ⟨?_, fun bs h => by cases h⟩
    unfold mNum
    split
    · exact h1
    · rfl
  | some bs =>
    have e : numsS size [n] (some bs) = if sizeOk size then (if fits size.toNat n then some (bs ++ digs n size.toNat) else none) else none := rfl
    rw [e]
    have e2 := h2 bs rfl
    unfold mNum
    by_cases c1 : sizeOk size = true
    · by_cases c2 : fits size.toNat n = true
      · rw [if_pos c1, if_pos c2, c1, c2]
        exact ⟨h1, fun cs hc => by rw [← Option.some.inj hc, ← e2]; rfl⟩
      · rw [if_pos c1, if_neg c2]
        have : (sizeOk size && fits size.toNat n) = false := by rw [Bool.eq_false_iff.2 c2, Bool.and_false]
        rw [this]
        exact ⟨rfl, fun cs hc => by cases hc⟩
    · rw [if_neg c1]
      have : (sizeOk size && fits size.toNat n) = false := by rw [Bool.eq_false_iff.2 c1]; rfl
      rw [this]
      exact ⟨rfl, fun cs hc => by cases hc⟩
theorem mNum_len (size n : Int) (m : Bool × List Int) : (mNum size n m).2.length ≤ m.2.length + 7 := by
  unfold mNum
  split
  · rename_i h
    have : sizeOk size = true := (Bool.and_eq_true_iff.1 h).1
    have := of_decide_eq_true this
    simp [digs_length]; omega
  · simp
theorem numsS_two (size x y : Int) (s : Option (List Int)) : numsS size [x, y] s = numsS size [y] (numsS size [x] s) := by
  cases s with
  | none => rfl
  | some bs =>
    show (if sizeOk size then numsL size.toNat bs [x, y] else none) = numsS size [y] (if sizeOk size then numsL size.toNat bs [x] else none)
    by_cases c1 : sizeOk size = true
    · rw [if_pos c1, if_pos c1]
      show (if fits size.toNat x then numsL size.toNat (bs ++ digs x size.toNat) [y] else none) = numsS size [y] (if fits size.toNat x then some (bs ++ digs x size.toNat) else none)
      split
      · show _ = (if sizeOk size then numsL size.toNat (bs ++ digs x size.toNat) [y] else none)
        rw [if_pos c1]
      · rfl
    · rw [if_neg c1, if_neg c1]; rfl
set_option maxHeartbeats 16000000 in
theorem rgram_any (w : World) (g : GrD) (a : Option Addr) (n c : Nat) (hn : g.body.length = n) (hr : Rd w 1 (.slice a n c) n (g.body.map (Value.int .u8))) (hb : ∀ x ∈ g.body, 0 ≤ x ∧ x < 256) (hnb : n ≤ 2200) :
    Calls Try.prog 20 #[gramV g a n c] w (EncGP g w) := by
  obtain ⟨gc, gk, gs, ga, gd, bo⟩ := g
  replace hn : bo.length = n := hn
  replace hr : Rd w 1 (.slice a n c) n (bo.map (Value.int .u8)) := hr
  replace hb : ∀ x ∈ bo, 0 ≤ x ∧ x < 256 := hb
  unfold gramV
  simp only
  obtain ⟨i0, hi0, hz0, hz1, hz2⟩ := info_parts Chk.info5
  obtain ⟨bx, hbx⟩ : ∃ b, w.heap.size = b := ⟨_, rfl⟩
  obtain ⟨wB, hwB⟩ : ∃ W, w.alloc (.cells #[.int .i64 gc, .int .i64 gk, .int .i64 gs, .int .i64 ga, .int .i64 gd, .slice a n c] 44) = W := ⟨_, rfl⟩
  have hB : Blk wB bx 44 [.int .i64 gc, .int .i64 gk, .int .i64 gs, .int .i64 ga, .int .i64 gd, .slice a n c] := by rw [← hwB, ← hbx]; exact Blk.new _ _ [.int .i64 gc, .int .i64 gk, .int .i64 gs, .int .i64 ga, .int .i64 gd, .slice a n c]
  have hmB : Mod (fun _ => False) w wB := by rw [← hwB]; exact Mod.alloc _ _ _
  have HB := Lib.hid (Ev.blk hB)
  have HR := Lib.hid (Ev.rd (hr.keep hmB (fun _ _ e => e)))
  have HN := Lib.hid hn
  have HMB := Lib.hid hmB
  have HBY := Lib.hid hb
  clear hB hr hn hmB hb
  obtain ⟨p, hp⟩ : ∃ b, wB.heap.size = b := ⟨_, rfl⟩
  obtain ⟨w0, hw0⟩ : ∃ W, wB.alloc (.cells #[.slice none 0 0, .bool false] 64) = W := ⟨_, rfl⟩
  obtain ⟨m0, hm0⟩ : ∃ m : Bool × List Int, (false, []) = m := ⟨_, rfl⟩
  have H0 : Hid (MWSt wB w0 p m0 (fun k => k = p)) := Lib.hid (by subst hw0 hp hm0; exact ⟨⟨.slice none 0 0, Blk.new _ _ [.slice none 0 0, .bool false], World.ownsRow_nil _ _ _ _, rfl, fun k hk => by simp [Value.ownBlock] at hk, fun k hk => by subst hk; simp⟩, fun k e => by have h2 : k = _ := e; omega, Mod.alloc _ _ _⟩)
  have R0 : Hid (RelM (some []) m0) := Lib.hid (by subst hm0; exact ⟨rfl, fun bs h => by cases h; rfl⟩)
  have hl0 : m0.2.length = 0 := by rw [← hm0]; rfl
  clear hm0
  go_enter Try.func20, Try.ntmps20
  go_upto_region 2 with fail
  try rw [hwB]
  try rw [hbx]
  try rw [hw0]
  try rw [hp]
  clear hwB hbx hw0 hp
  have hbk := HB.out.at (H0.out.mod)
  have q0 := hbk.cell 0 rfl
  have q1 := hbk.cell 1 rfl
  have q2 := hbk.cell 2 rfl
  have q3 := hbk.cell 3 rfl
  have q4 := hbk.cell 4 rfl
  have q5 := hbk.cell 5 rfl
  have lb := hbk.lt
  clear hbk
  go_upto_block 0 with fail
  clear q0 q1 q2 q3 q4 q5 lb
  go_cut [10] (fun _ wx => ∃ m F5, MWSt wB wx p m F5 ∧ RelM (gBody ⟨gc, gk, gs, ga, gd, bo⟩) m ∧ m.2.length ≤ 2300)
  case first =>
    by_cases k1 : gk = 1
    case pos =>
      subst k1
      have hbk := HB.out.at (H0.out.mod)
      have q0 := hbk.cell 0 rfl
      have q1 := hbk.cell 1 rfl
      have q2 := hbk.cell 2 rfl
      have q3 := hbk.cell 3 rfl
      have q4 := hbk.cell 4 rfl
      have q5 := hbk.cell 5 rfl
      have lb := hbk.lt
      clear hbk
      go_wp2_with fail
      refine (mnumW_any p _ m0.1 m0.2 _ H0.out.m 4 gc (by omega)).mono ?_
      rintro e wn1 ⟨rfl, F1, hW, hA⟩
      obtain ⟨m1, hm⟩ : ∃ m, mNum 4 gc (m0.1, m0.2) = m := ⟨_, rfl⟩
      have R1 := Lib.hid (RelM.num R0.out 4 gc)
      have hl1 := mNum_len 4 gc m0
      rw [show mNum 4 gc m0 = m1 from hm] at R1 hl1
      rw [hm] at hW
      have HN1 := Lib.hid (H0.out.aft hW hA)
      clear hW hA hm
      clear q0 q1 q2 q3 q4 q5 lb
      have hbk := HB.out.at (HN1.out.mod)
      have q0 := hbk.cell 0 rfl
      have q1 := hbk.cell 1 rfl
      have q2 := hbk.cell 2 rfl
      have q3 := hbk.cell 3 rfl
      have q4 := hbk.cell 4 rfl
      have q5 := hbk.cell 5 rfl
      have lb := hbk.lt
      clear hbk
      go_wp2_with fail
      refine (mnumW_any p _ m1.1 m1.2 _ HN1.out.m 4 gs (by omega)).mono ?_
      rintro e wn2 ⟨rfl, F2, hW, hA⟩
      obtain ⟨m2, hm⟩ : ∃ m, mNum 4 gs (m1.1, m1.2) = m := ⟨_, rfl⟩
      have R2 := Lib.hid (RelM.num R1.out 4 gs)
      have hl2 := mNum_len 4 gs m1
      rw [show mNum 4 gs m1 = m2 from hm] at R2 hl2
      rw [hm] at hW
      have HN2 := Lib.hid (HN1.out.aft hW hA)
      clear hW hA hm
      clear q0 q1 q2 q3 q4 q5 lb
      have hbk := HB.out.at (HN2.out.mod)
      have q0 := hbk.cell 0 rfl
      have q1 := hbk.cell 1 rfl
      have q2 := hbk.cell 2 rfl
      have q3 := hbk.cell 3 rfl
      have q4 := hbk.cell 4 rfl
      have q5 := hbk.cell 5 rfl
      have lb := hbk.lt
      clear hbk
      go_wp2_with fail
      refine (mnumW_any p _ m2.1 m2.2 _ HN2.out.m 4 ga (by omega)).mono ?_
      rintro e wn3 ⟨rfl, F3, hW, hA⟩
      obtain ⟨m3, hm⟩ : ∃ m, mNum 4 ga (m2.1, m2.2) = m := ⟨_, rfl⟩
      have R3 := Lib.hid (RelM.num R2.out 4 ga)
      have hl3 := mNum_len 4 ga m2
      rw [show mNum 4 ga m2 = m3 from hm] at R3 hl3
      rw [hm] at hW
      have HN3 := Lib.hid (HN2.out.aft hW hA)
      clear hW hA hm
      clear q0 q1 q2 q3 q4 q5 lb
      obtain ⟨v, b1, b2, b3, b4, b5⟩ := HN3.out.m
      obtain ⟨av, cv, rfl⟩ := own_form b2
      have f0 := b1.cell 0 rfl
      have d0 := b1.free 0
      have lp := b1.lt
      have hbk := HB.out.at (HN3.out.mod)
      have q0 := hbk.cell 0 rfl
      have q1 := hbk.cell 1 rfl
      have q2 := hbk.cell 2 rfl
      have q3 := hbk.cell 3 rfl
      have q4 := hbk.cell 4 rfl
      have q5 := hbk.cell 5 rfl
      have lb := hbk.lt
      clear hbk
      have hRB := (HR.out.at HN3.out.mod).drew
      have hm1 : m3.2.length + n ≤ maxLen := by unfold maxLen; omega
      have hm2 : (m3.2.length + n) * 1 ≤ 140737488355328 := by omega
      have h1c : ∀ u ∈ bo.map (Value.int .u8), u.oneCell' = true := by intro u hu; obtain ⟨x, _, rfl⟩ := List.mem_map.1 hu; rfl
      go_upto_region 8 with fail
      go_region_law (
        refine step_append_any rfl (.tmp 27) (.tmp 29) 27 rfl 5 i0 (.int .u8 0) 1 1 Try.underlying27 hi0 hz0 hz1 hz2 rfl (by decide) (.slice av m3.2.length cv) m3.2.length (m3.2.map (Value.int .u8)) (by simp [Act.eval]) (by exact World.ownsRow.drew b2)
          (.slice a n c) n (bo.map (Value.int .u8)) (by simp [Act.eval]) hRB h1c hm1 hm2 ?_
        intro v' w' hap
        obtain ⟨a1, k1, rfl⟩ := hap.form
        have hb1 : Blk w' p 64 [.slice av m3.2.length cv, .bool m3.1] := (b1.drew).keep hap.mod (fun e => (b4 _ e).2 rfl)
        have c1' := hb1.cell 0 rfl
        have d1' := hb1.free 0)
      all_goals (go_wp2_with fail; go_meet; obtain ⟨F9, hW9, hA9⟩ := MW.pushed b1 b3 b4 (Mod.drew _ _) hap; refine ⟨(m3.1, m3.2 ++ bo), F9, HN3.out.aft hW9 hA9, ?_, by have h := HN.out; simp; omega⟩; have hg : gBody ⟨gc, 1, gs, ga, gd, bo⟩ = (numsS 4 [gs, ga] (numsS 4 [gc] (some []))).map (· ++ bo) := (by unfold gBody; rw [if_pos rfl]); rw [hg, numsS_two]; have hR := R3.out; refine ⟨by rw [hR.1]; cases (numsS 4 [ga] (numsS 4 [gs] (numsS 4 [gc] (some [])))) <;> rfl, fun bs hbs => ?_⟩; cases hs : (numsS 4 [ga] (numsS 4 [gs] (numsS 4 [gc] (some [])))) with | none => rw [hs] at hbs; cases hbs | some y => rw [hs] at hbs; have h2 := hR.2 y hs; have h3 := Option.some.inj hbs; rw [← h3, ← h2])
    case neg =>
      have z1 : (gk == 1) = false := by rw [beq_eq_false_iff_ne]; exact k1
      have K1 := Lib.hid k1
      clear k1
      by_cases k2 : gk = 2
      case pos =>
        have z2 : (gk == 2) = true := by rw [k2]; rfl
        have K2 := Lib.hid k2
        clear k2
        have hbk := HB.out.at (H0.out.mod)
        have q0 := hbk.cell 0 rfl
        have q1 := hbk.cell 1 rfl
        have q2 := hbk.cell 2 rfl
        have q3 := hbk.cell 3 rfl
        have q4 := hbk.cell 4 rfl
        have q5 := hbk.cell 5 rfl
        have lb := hbk.lt
        clear hbk
        go_wp2_with fail
        refine (mnumW_any p _ m0.1 m0.2 _ H0.out.m 4 gc (by omega)).mono ?_
        rintro e wn4 ⟨rfl, F4, hW, hA⟩
        obtain ⟨m4, hm⟩ : ∃ m, mNum 4 gc (m0.1, m0.2) = m := ⟨_, rfl⟩
        have R4 := Lib.hid (RelM.num R0.out 4 gc)
        have hl4 := mNum_len 4 gc m0
        rw [show mNum 4 gc m0 = m4 from hm] at R4 hl4
        rw [hm] at hW
        have HN4 := Lib.hid (H0.out.aft hW hA)
        clear hW hA hm
        clear q0 q1 q2 q3 q4 q5 lb
        have hbk := HB.out.at (HN4.out.mod)
        have q0 := hbk.cell 0 rfl
        have q1 := hbk.cell 1 rfl
        have q2 := hbk.cell 2 rfl
        have q3 := hbk.cell 3 rfl
        have q4 := hbk.cell 4 rfl
        have q5 := hbk.cell 5 rfl
        have lb := hbk.lt
        clear hbk
        go_wp2_with fail
        refine (mnumW_any p _ m4.1 m4.2 _ HN4.out.m 4 ga (by omega)).mono ?_
        rintro e wn5 ⟨rfl, F5, hW, hA⟩
        obtain ⟨m5, hm⟩ : ∃ m, mNum 4 ga (m4.1, m4.2) = m := ⟨_, rfl⟩
        have R5 := Lib.hid (RelM.num R4.out 4 ga)
        have hl5 := mNum_len 4 ga m4
        rw [show mNum 4 ga m4 = m5 from hm] at R5 hl5
        rw [hm] at hW
        have HN5 := Lib.hid (HN4.out.aft hW hA)
        clear hW hA hm
        clear q0 q1 q2 q3 q4 q5 lb
        go_wp2_with fail
        go_meet
        exact ⟨m5, _, HN5.out, by rw [show gBody ⟨gc, gk, gs, ga, gd, bo⟩ = (numsS 4 [ga] (numsS 4 [gc] (some []))) from by unfold gBody; simp only; rw [if_neg K1.out, if_pos K2.out]]; exact R5.out, by omega⟩
      case neg =>
        have z2 : (gk == 2) = false := by rw [beq_eq_false_iff_ne]; exact k2
        have K2 := Lib.hid k2
        clear k2
        by_cases k3 : gk = 3
        case pos =>
          have z3 : (gk == 3) = true := by rw [k3]; rfl
          have K3 := Lib.hid k3
          clear k3
          have hbk := HB.out.at (H0.out.mod)
          have q0 := hbk.cell 0 rfl
          have q1 := hbk.cell 1 rfl
          have q2 := hbk.cell 2 rfl
          have q3 := hbk.cell 3 rfl
          have q4 := hbk.cell 4 rfl
          have q5 := hbk.cell 5 rfl
          have lb := hbk.lt
          clear hbk
          go_wp2_with fail
          refine (mnumW_any p _ m0.1 m0.2 _ H0.out.m 4 gc (by omega)).mono ?_
          rintro e wn6 ⟨rfl, F6, hW, hA⟩
          obtain ⟨m6, hm⟩ : ∃ m, mNum 4 gc (m0.1, m0.2) = m := ⟨_, rfl⟩
          have R6 := Lib.hid (RelM.num R0.out 4 gc)
          have hl6 := mNum_len 4 gc m0
          rw [show mNum 4 gc m0 = m6 from hm] at R6 hl6
          rw [hm] at hW
          have HN6 := Lib.hid (H0.out.aft hW hA)
          clear hW hA hm
          clear q0 q1 q2 q3 q4 q5 lb
          have hbk := HB.out.at (HN6.out.mod)
          have q0 := hbk.cell 0 rfl
          have q1 := hbk.cell 1 rfl
          have q2 := hbk.cell 2 rfl
          have q3 := hbk.cell 3 rfl
          have q4 := hbk.cell 4 rfl
          have q5 := hbk.cell 5 rfl
          have lb := hbk.lt
          clear hbk
          go_wp2_with fail
          refine (mnumW_any p _ m6.1 m6.2 _ HN6.out.m 1 gd (by omega)).mono ?_
          rintro e wn7 ⟨rfl, F7, hW, hA⟩
          obtain ⟨m7, hm⟩ : ∃ m, mNum 1 gd (m6.1, m6.2) = m := ⟨_, rfl⟩
          have R7 := Lib.hid (RelM.num R6.out 1 gd)
          have hl7 := mNum_len 1 gd m6
          rw [show mNum 1 gd m6 = m7 from hm] at R7 hl7
          rw [hm] at hW
          have HN7 := Lib.hid (HN6.out.aft hW hA)
          clear hW hA hm
          clear q0 q1 q2 q3 q4 q5 lb
          go_wp2_with fail
          go_meet
          exact ⟨m7, _, HN7.out, by rw [show gBody ⟨gc, gk, gs, ga, gd, bo⟩ = (numsS 1 [gd] (numsS 4 [gc] (some []))) from by unfold gBody; simp only; rw [if_neg K1.out, if_neg K2.out, if_pos K3.out]]; exact R7.out, by omega⟩
        case neg =>
          have z3 : (gk == 3) = false := by rw [beq_eq_false_iff_ne]; exact k3
          have K3 := Lib.hid k3
          clear k3
          have HG2 : Hid (encG ⟨gc, gk, gs, ga, gd, bo⟩ = none) := Lib.hid (by unfold encG gBody; simp only; rw [if_neg K1.out, if_neg K2.out, if_neg K3.out]; rfl)
          go_wp2_with fail
          go_ret2
          exact ⟨_, by rw [HG2.out]; rfl, by rw [HG2.out]; exact World.ownsRow_nil _ _ _ _, HMB.out.of2 H0.out.mod, none, 0, by rw [HG2.out]; rfl⟩
  case rest =>
    obtain ⟨⟨bad, bs⟩, F5, h5, hrel, hl5⟩ := hcut
    replace hl5 : bs.length ≤ 2300 := hl5
    obtain ⟨v, b1, b2, b3, b4, b5⟩ := h5.m
    obtain ⟨av, cv, rfl⟩ := own_form b2
    obtain ⟨L, hL⟩ : ∃ x, bs.length = x := ⟨_, rfl⟩
    have H5 := Lib.hid h5
    have HREL := Lib.hid hrel
    simp only at b1 b2
    rw [hL] at b1 b2
    have b1e := Ev.blk b1
    have HBW := Lib.hid b1e
    have HRW := Lib.hid (Ev.rd (Rd.ofOwn b2))
    have HL := Lib.hid hL
    clear b1 b2 b3 b4 b5 h5 hrel hL b1e
    have hbk2 := HBW.out.at (Mod.refl _ _)
    have f0 := hbk2.cell 0 rfl
    have f1 := hbk2.cell 1 rfl
    have lp := hbk2.lt
    clear hbk2
    cases bad with
    | true =>
      have HG2 : Hid (encG ⟨gc, gk, gs, ga, gd, bo⟩ = none) := Lib.hid (by unfold encG; have h := HREL.out.1; cases hs : gBody ⟨gc, gk, gs, ga, gd, bo⟩ with | none => rfl | some y => rw [hs] at h; cases h)
      go_wp2_with fail
      go_ret2
      exact ⟨_, by rw [HG2.out]; rfl, by rw [HG2.out]; exact World.ownsRow_nil _ _ _ _, HMB.out.of2 H5.out.mod, none, 0, by rw [HG2.out]; rfl⟩
    | false =>
      have hgb : gBody ⟨gc, gk, gs, ga, gd, bo⟩ = some bs := by have h := HREL.out.1; have h2 := HREL.out.2; cases hs : gBody ⟨gc, gk, gs, ga, gd, bo⟩ with | none => rw [hs] at h; cases h | some y => rw [hs] at h2; exact congrArg some (h2 y rfl).symm
      have HG : Hid (encG ⟨gc, gk, gs, ga, gd, bo⟩ = wrapS gk bs) := Lib.hid (by unfold encG; rw [hgb]; rfl)
      have hrg : ∀ x ∈ bs, 0 ≤ x ∧ x < 256 := gBody_range (g := ⟨gc, gk, gs, ga, gd, bo⟩) HBY.out hgb
      have HRG := Lib.hid hrg
      clear hgb hrg
      have hbk := HB.out.at (H5.out.mod)
      have q0 := hbk.cell 0 rfl
      have q1 := hbk.cell 1 rfl
      have q2 := hbk.cell 2 rfl
      have q3 := hbk.cell 3 rfl
      have q4 := hbk.cell 4 rfl
      have q5 := hbk.cell 5 rfl
      have lb := hbk.lt
      clear hbk
      go_upto_region 17 with fail
      obtain ⟨wd, hwd⟩ : ∃ W, World.drew wc = W := ⟨_, rfl⟩
      have hmd : Mod (fun _ => False) wc wd := by rw [← hwd]; exact Mod.drew _ _
      have HRWD := Lib.hid (HRW.out.at hmd)
      have HMD := Lib.hid (HMB.out.of2 (H5.out.mod.of2 hmd))
      have HCALL := Lib.hid (rwrap_any wd gk av L cv bs HL.out HRWD.out HRG.out)
      clear hmd
      clear q0 q1 q2 q3 q4 q5 lb f0 f1 lp
      have hbk := HB.out.at (show Mod (fun _ => False) wB wd from H5.out.mod.of2 (by rw [← hwd]; exact Mod.drew _ _))
      have q0 := hbk.cell 0 rfl
      have q1 := hbk.cell 1 rfl
      have q2 := hbk.cell 2 rfl
      have q3 := hbk.cell 3 rfl
      have q4 := hbk.cell 4 rfl
      have q5 := hbk.cell 5 rfl
      have lb := hbk.lt
      clear hbk
      have hbk2 := HBW.out.at (show Mod (fun _ => False) wc wd from by rw [← hwd]; exact Mod.drew _ _)
      have f0 := hbk2.cell 0 rfl
      have f1 := hbk2.cell 1 rfl
      have lp := hbk2.lt
      clear hbk2
      go_region_law (
        go_simp
        go_at_call 21
        refine HCALL.out.mono ?_
        rintro e w8 ⟨v8, rfl, hF8, hM8, a8, c8, rfl⟩
        obtain ⟨er, her⟩ : ∃ z : Int, (if (wrapS gk bs).isNone = true then (1 : Int) else 0) = z := ⟨_, rfl⟩
        rw [her]
        have HER := Lib.hid her
        clear her
        obtain ⟨ln, hln⟩ : ∃ z : Nat, ((wrapS gk bs).getD []).length = z := ⟨_, rfl⟩
        rw [hln]
        have HLN := Lib.hid hln
        clear hln
        have HF8 := Lib.hid (Own.base hF8 HMD.out.size)
        have HM8 := Lib.hid (HMD.out.of2 hM8)
        clear hF8 hM8)
      all_goals (go_wp2_with fail; go_ret2; exact ⟨.slice a8 ln c8, by rw [HG.out, HER.out]; rfl, by rw [HG.out, ← HLN.out]; exact HF8.out, HM8.out, a8, c8, by rw [HG.out, HLN.out]⟩)
end Go.Proofs.Ytabfmnlpipbegaa
