/- message.Encode by contract. -/
import Derived.Test.YtabfmnlpipbegaaMsgP
import Derived.Test.YtabfmnlpipbegaaCh
import Derived.Test.YtabfmnlpipbegaaEv
import Derived.Deep.DeepCutAuto
import Derived.Deep.CutBlock
namespace Go.Proofs.Ytabfmnlpipbegaa
open Go.RowKit Mile
set_option maxRecDepth 100000
def ChPrev (K : Ch) (k : Nat) (L : Nat → Prop) : Prop := k = 0 ∨ L (K.calls.getD (k - 1) 0)
def msgV (m : MsD) (a : Option Addr) (n c : Nat) : Value := .agg #[.int .i64 m.kind, .int .i64 m.pos, .int .i64 m.dest, .slice a n c, .int .i64 m.weight, .int .i64 m.hc, .int .i64 m.he, .int .i64 m.hf, .int .i64 m.hl]
/-- What Encode tells. -/
def EncMP (m : MsD) (w : World) (e : Ending) (w' : World) : Prop :=
  ∃ a c, e = .returned (.tuple #[.slice a ((mBytes m).getD []).length c, .int .i64 (if (mBytes m).isNone then 1 else 0)]) ∧ Fresh w' w.heap.size (.slice a ((mBytes m).getD []).length c) ((mBytes m).getD []) ∧ Mod (fun _ => False) w w'
theorem mBytes_len (m : MsD) : ((mBytes m).getD []).length ≤ 100 + 7 * m.edges.length := by
  have h0 := numsS_len 1 [m.kind] (some [])
  have h1 := numsS_len 2 [m.pos, m.dest] (numsS 1 [m.kind] (some []))
  have h2 := numsS_len 2 [m.pos] (numsS 1 [m.kind] (some []))
  have h3 := numsS_len 5 [m.weight] (numsS 1 [m.kind] (some []))
  have h4 := numsS_len 2 [(m.edges.length : Int)] (numsS 5 [m.weight] (numsS 1 [m.kind] (some [])))
  have h5 := numsS_len 2 m.edges (numsS 2 [(m.edges.length : Int)] (numsS 5 [m.weight] (numsS 1 [m.kind] (some []))))
  have h6 := numsS_len 1 [m.hc] (numsS 1 [m.kind] (some []))
  have h7 := numsS_len 2 [edge1 m.he] (numsS 1 [m.hc] (numsS 1 [m.kind] (some [])))
  have h8 := numsS_len 5 [m.hf, m.hl] (numsS 2 [edge1 m.he] (numsS 1 [m.hc] (numsS 1 [m.kind] (some []))))
  simp only [List.length_cons, List.length_nil, Option.getD_some] at h0 h1 h2 h3 h4 h5 h6 h7 h8
  unfold mBytes
  split
  · omega
  · split
    · omega
    · split
      · split
        · simp
        · omega
      · split
        · omega
        · split
          · omega
          · simp
def me12_K (wB w0 : World) (p bx : Nat) (a : Option Addr) (n c : Nat) (mw : Int) (s1 s2 s3 s4 : Option (List Int)) : Ch := ⟨wB, w0, p,
  [.pointer (some ⟨p, 0, none⟩),
   .pointer (some ⟨bx, 4, none⟩),
   .int .i64 mw,
   undef,
   .pointer (some ⟨p, 0, none⟩),
   .pointer (some ⟨bx, 3, none⟩),
   .slice a n c,
   .int .i64 (n : Int),
   undef,
   .pointer (some ⟨p, 0, none⟩),
   .pointer (some ⟨bx, 3, none⟩),
   .slice a n c,
   .pointer (some ⟨p, 0, none⟩)],
  [(3, [mw]), (8, [(n : Int)])], [4, 9, 12], [s1, s2, s3, s4]⟩
def me12_D : List (List Nat) := [[], [], [1], [2], [0, 3], [], [5], [6], [7], [4, 8], [], [10], [9, 11]]

def me15a_K (wB w0 : World) (p bh : Nat) (mc mf ml : Int) (s1 s2 s3 s4 : Option (List Int)) : Ch := ⟨wB, w0, p,
  [.pointer (some ⟨p, 0, none⟩),
   .pointer (some ⟨bh, 0, none⟩),
   .int .i64 mc,
   undef,
   .pointer (some ⟨p, 0, none⟩),
   .pointer (some ⟨bh, 1, none⟩),
   .int .i64 9223372036854775807,
   .int .i64 (-9223372036854775808),
   undef,
   .pointer (some ⟨p, 0, none⟩),
   .pointer (some ⟨bh, 2, none⟩),
   .int .i64 mf,
   .pointer (some ⟨bh, 3, none⟩),
   .int .i64 ml,
   undef,
   .pointer (some ⟨p, 0, none⟩)],
  [(3, [mc]), (8, [(-9223372036854775808)]), (14, [mf, ml])], [4, 9, 15], [s1, s2, s3, s4]⟩
def me15a_D : List (List Nat) := [[], [], [1], [2], [0, 3], [], [5], [6], [7], [4, 8], [], [10], [], [12], [11, 13], [9, 14]]

def me15b_K (wB w0 : World) (p bh : Nat) (mc me mf ml : Int) (s1 s2 s3 s4 : Option (List Int)) : Ch := ⟨wB, w0, p,
  [.pointer (some ⟨p, 0, none⟩),
   .pointer (some ⟨bh, 0, none⟩),
   .int .i64 mc,
   undef,
   .pointer (some ⟨p, 0, none⟩),
   .pointer (some ⟨bh, 1, none⟩),
   .int .i64 me,
   .int .i64 (me + 1),
   undef,
   .pointer (some ⟨p, 0, none⟩),
   .pointer (some ⟨bh, 2, none⟩),
   .int .i64 mf,
   .pointer (some ⟨bh, 3, none⟩),
   .int .i64 ml,
   undef,
   .pointer (some ⟨p, 0, none⟩)],
  [(3, [mc]), (8, [(me + 1)]), (14, [mf, ml])], [4, 9, 15], [s1, s2, s3, s4]⟩
def me15b_D : List (List Nat) := [[], [], [1], [2], [0, 3], [], [5], [6], [7], [4, 8], [], [10], [], [12], [11, 13], [9, 14]]

set_option maxHeartbeats 32000000 in
theorem mencode_any (w : World) (m : MsD) (a : Option Addr) (n c : Nat) (hn : m.edges.length = n) (hr : Rd w 1 (.slice a n c) n (m.edges.map (Value.int .i64))) (hnb : n ≤ 2000) (he : -9223372036854775808 ≤ m.he ∧ m.he ≤ 9223372036854775807) :
    Calls Try.prog 10 #[msgV m a n c] w (EncMP m w) := by
  obtain ⟨mk, mp, md, ed, mw, mc, me, mf, ml⟩ := m
  replace hn : ed.length = n := hn
  replace hr : Rd w 1 (.slice a n c) n (ed.map (Value.int .i64)) := hr
  replace he : -9223372036854775808 ≤ me ∧ me ≤ 9223372036854775807 := he
  unfold msgV
  simp only
  obtain ⟨bx, hbx⟩ : ∃ b, w.heap.size = b := ⟨_, rfl⟩
  obtain ⟨wB, hwB⟩ : ∃ W, w.alloc (.cells #[.int .i64 mk, .int .i64 mp, .int .i64 md, .slice a n c, .int .i64 mw, .int .i64 mc, .int .i64 me, .int .i64 mf, .int .i64 ml] 26) = W := ⟨_, rfl⟩
  have hB : Blk wB bx 26 [.int .i64 mk, .int .i64 mp, .int .i64 md, .slice a n c, .int .i64 mw, .int .i64 mc, .int .i64 me, .int .i64 mf, .int .i64 ml] := by rw [← hwB, ← hbx]; exact Blk.new _ _ [.int .i64 mk, .int .i64 mp, .int .i64 md, .slice a n c, .int .i64 mw, .int .i64 mc, .int .i64 me, .int .i64 mf, .int .i64 ml]
  have hmB : Mod (fun _ => False) w wB := by rw [← hwB]; exact Mod.alloc _ _ _
  have HB := Lib.hid (Ev.blk hB)
  have HR := Lib.hid (hr.keep hmB (fun _ _ e => e))
  have HN := Lib.hid hn
  have HMB := Lib.hid hmB
  have HE := Lib.hid he
  clear hB hr hn hmB he
  obtain ⟨p, hp⟩ : ∃ b, wB.heap.size = b := ⟨_, rfl⟩
  obtain ⟨w0, hw0⟩ : ∃ W, wB.alloc (.cells #[.slice none 0 0, .bool false] 59) = W := ⟨_, rfl⟩
  have h0 : WrSt wB w0 p (some []) (fun k => k = p) := by subst hw0 hp; exact ⟨Wr.new _ rfl, fun k e => by have h2 : k = _ := e; omega, Mod.alloc _ _ _⟩
  have H0 := Lib.hid (WS.of h0)
  clear h0
  obtain ⟨b1, hb1⟩ : ∃ b, w0.heap.size = b := ⟨_, rfl⟩
  obtain ⟨w1, hw1⟩ : ∃ W, w0.alloc (.cells #[.int .i64 mk] 3) = W := ⟨_, rfl⟩
  have h1 : WS wB w1 p (some []) [(b1, 3, [.int .i64 mk])] := by rw [← hw1, ← hb1]; exact H0.out.al 3 [.int .i64 mk]
  have H1 := Lib.hid h1
  clear h1
  go_enter Try.func10, Try.ntmps10
  go_upto_region 1 with fail
  try rw [hwB]
  try rw [hbx]
  clear hwB hbx
  have hbk := HB.out.at (H0.out.mod)
  have q0 := hbk.cell 0 rfl
  have q1 := hbk.cell 1 rfl
  have q2 := hbk.cell 2 rfl
  have q3 := hbk.cell 3 rfl
  have q4 := hbk.cell 4 rfl
  have q5 := hbk.cell 5 rfl
  have q6 := hbk.cell 6 rfl
  have q7 := hbk.cell 7 rfl
  have q8 := hbk.cell 8 rfl
  have lb := hbk.lt
  clear hbk
  go_wp2_with fail
  refine (nums_ws [mk] H1.out (by simp) rfl (by simp) (by simp)).mono ?_
  rintro e w2 ⟨rfl, h2⟩
  have H2 := Lib.hid h2
  clear h2 hw1 hb1 hw0 hp H1 H0
  clear q0 q1 q2 q3 q4 q5 q6 q7 q8 lb
  have hbk := HB.out.at (H2.out.mod)
  have q0 := hbk.cell 0 rfl
  have q1 := hbk.cell 1 rfl
  have q2 := hbk.cell 2 rfl
  have q3 := hbk.cell 3 rfl
  have q4 := hbk.cell 4 rfl
  have q5 := hbk.cell 5 rfl
  have q6 := hbk.cell 6 rfl
  have q7 := hbk.cell 7 rfl
  have q8 := hbk.cell 8 rfl
  have lb := hbk.lt
  clear hbk
  obtain ⟨s1, hs1⟩ : ∃ x, numsS 1 [mk] (some []) = x := ⟨_, rfl⟩
  have hl1 : (s1.getD []).length ≤ 7 := by rw [← hs1]; exact numsS_len 1 [mk] (some [])
  rw [hs1] at H2
  have HS1 := Lib.hid hs1
  clear hs1
  go_upto_block 0 with fail
  go_cut [22] (fun _ wx => ∃ Q, WS wB wx p (mBytes ⟨mk, mp, md, ed, mw, mc, me, mf, ml⟩) Q)
  case first =>
    by_cases k1 : mk = 1
    case pos =>
      have z1 : (mk == 1) = true := by rw [k1]; rfl
      have K1 := Lib.hid k1
      clear k1
      obtain ⟨b3, hb3⟩ : ∃ b, w2.heap.size = b := ⟨_, rfl⟩
      obtain ⟨w3, hw3⟩ : ∃ W, w2.alloc (.cells #[.int .i64 mp, .int .i64 md] 3) = W := ⟨_, rfl⟩
      have h3 : WS wB w3 p s1 ((b3, 3, [.int .i64 mp, .int .i64 md]) :: [(b1, 3, [.int .i64 mk])]) := by rw [← hw3, ← hb3]; exact H2.out.al 3 [.int .i64 mp, .int .i64 md]
      have H3 := Lib.hid h3
      clear h3
      go_wp2_with fail
      refine (nums_ws [mp, md] H3.out (by simp) rfl (by simp) (by omega)).mono ?_
      rintro e w5 ⟨rfl, h5⟩
      have H5 := Lib.hid h5
      clear h5 hw3 hb3 H3
      go_wp2_with fail
      go_meet
      exact ⟨_, by unfold mBytes; simp only; rw [if_pos K1.out, HS1.out]; exact H5.out⟩
    case neg =>
      have z1 : (mk == 1) = false := by rw [beq_eq_false_iff_ne]; exact k1
      have K1 := Lib.hid k1
      clear k1
      by_cases k2 : mk = 2
      case pos =>
        have z2 : (mk == 2) = true := by rw [k2]; rfl
        have K2 := Lib.hid k2
        clear k2
        obtain ⟨b3, hb3⟩ : ∃ b, w2.heap.size = b := ⟨_, rfl⟩
        obtain ⟨w3, hw3⟩ : ∃ W, w2.alloc (.cells #[.int .i64 mp] 3) = W := ⟨_, rfl⟩
        have h3 : WS wB w3 p s1 ((b3, 3, [.int .i64 mp]) :: [(b1, 3, [.int .i64 mk])]) := by rw [← hw3, ← hb3]; exact H2.out.al 3 [.int .i64 mp]
        have H3 := Lib.hid h3
        clear h3
        go_wp2_with fail
        refine (nums_ws [mp] H3.out (by simp) rfl (by simp) (by omega)).mono ?_
        rintro e w5 ⟨rfl, h5⟩
        have H5 := Lib.hid h5
        clear h5 hw3 hb3 H3
        go_wp2_with fail
        go_meet
        exact ⟨_, by unfold mBytes; simp only; rw [if_neg K1.out, if_pos (.inl K2.out), HS1.out]; exact H5.out⟩
      case neg =>
        have z2 : (mk == 2) = false := by rw [beq_eq_false_iff_ne]; exact k2
        have K2 := Lib.hid k2
        clear k2
        by_cases k9 : mk = 9
        case pos =>
          have z9 : (mk == 9) = true := by rw [k9]; rfl
          have K9 := Lib.hid k9
          clear k9
          obtain ⟨b3, hb3⟩ : ∃ b, w2.heap.size = b := ⟨_, rfl⟩
          obtain ⟨w3, hw3⟩ : ∃ W, w2.alloc (.cells #[.int .i64 mp] 3) = W := ⟨_, rfl⟩
          have h3 : WS wB w3 p s1 ((b3, 3, [.int .i64 mp]) :: [(b1, 3, [.int .i64 mk])]) := by rw [← hw3, ← hb3]; exact H2.out.al 3 [.int .i64 mp]
          have H3 := Lib.hid h3
          clear h3
          go_wp2_with fail
          refine (nums_ws [mp] H3.out (by simp) rfl (by simp) (by omega)).mono ?_
          rintro e w5 ⟨rfl, h5⟩
          have H5 := Lib.hid h5
          clear h5 hw3 hb3 H3
          go_wp2_with fail
          go_meet
          exact ⟨_, by unfold mBytes; simp only; rw [if_neg K1.out, if_pos (.inr K9.out), HS1.out]; exact H5.out⟩
        case neg =>
          have z9 : (mk == 9) = false := by rw [beq_eq_false_iff_ne]; exact k9
          have K9 := Lib.hid k9
          clear k9
          by_cases k5 : mk = 5
          case pos =>
            have z5 : (mk == 5) = true := by rw [k5]; rfl
            have K5 := Lib.hid k5
            clear k5
            by_cases hle : 512 < n
            case pos =>
              have z0 : decide (512 < (n : Int)) = true := by simp; omega
              have z00 : decide (512 < n) = true := by simp; omega
              have HG2 : Hid (mBytes ⟨mk, mp, md, ed, mw, mc, me, mf, ml⟩ = none) := Lib.hid (by unfold mBytes; simp only; rw [if_neg K1.out, if_neg (fun h => h.elim K2.out K9.out), if_pos K5.out, if_pos (by have := HN.out; omega)])
              go_wp2_with fail
              go_ret2
              exact ⟨none, 0, by rw [HG2.out]; rfl, by rw [HG2.out]; exact World.ownsRow_nil _ _ _ _, HMB.out.of2 H2.out.mod⟩
            case neg =>
              have z0 : decide (512 < (n : Int)) = false := by simp; omega
              have z00 : decide (512 < n) = false := by simp; omega
              go_upto_region 12 with fail
              obtain ⟨s2, hs2⟩ : ∃ x, numsS 5 [mw] s1 = x := ⟨_, rfl⟩
              have hl2 : (s2.getD []).length ≤ 14 := by rw [← hs2]; have := numsS_len 5 [mw] s1; simp at this; omega
              have HS2 := Lib.hid hs2
              clear hs2
              obtain ⟨s3, hs3⟩ : ∃ x, numsS 2 [(n : Int)] s2 = x := ⟨_, rfl⟩
              have hl3 : (s3.getD []).length ≤ 21 := by rw [← hs3]; have := numsS_len 2 [(n : Int)] s2; simp at this; omega
              have HS3 := Lib.hid hs3
              clear hs3
              obtain ⟨s4, hs4⟩ : ∃ x, numsS 2 ed s3 = x := ⟨_, rfl⟩
              have HS4 := Lib.hid hs4
              clear hs4
              obtain ⟨⟨F2, hwr, _⟩⟩ := H2.out
              have HWR := Lib.hid hwr
              clear hwr
              clear q0 q1 q2 q3 q4 q5 q6 q7 q8 lb
              refine wp_region_gen (act := ?actme12) (ChI (me12_K wB w2 p bx a n c mw s1 s2 s3 s4)) (fun i => me12_D.getD i []) (by kernel_rfl) (by kernel_rfl) (by kernel_rfl) (by kernel_rfl) ?hactme12 ?h0me12 ?_ ?_
              case hactme12 => intro vs; simp only [putAll, Nat.zero_add, Nat.reduceAdd, Act.put, List.setIfInBounds_toArray, List.set_cons_succ, List.set_cons_zero]; exact rfl
              case h0me12 => intro vs; exact ChI.start (K := me12_K wB w2 p bx a n c mw s1 s2 s3 s4) HWR.out
              · refine opsOkG_cons ?_ ?_
                · intro K vs W L hI hD hnL hK
                  try dsimp only at hK ⊢
                  simp only [Act.put, List.setIfInBounds_toArray, List.set_cons_succ, List.set_cons_zero] at hK
                  have HI := Lib.hid hI
                  clear hI hD hnL
                  go_wp2
                  first | exact HI.out.val_ 0 rfl rfl rfl (Mod.refl _ _) | exact hK _ _ (HI.out.val_ 0 rfl rfl rfl (Mod.refl _ _))
                refine opsOkG_cons ?_ ?_
                · intro K vs W L hI hD hnL hK
                  try dsimp only at hK ⊢
                  simp only [Act.put, List.setIfInBounds_toArray, List.set_cons_succ, List.set_cons_zero] at hK
                  have HI := Lib.hid hI
                  clear hI hD hnL
                  go_wp2
                  first | exact HI.out.val_ 1 rfl rfl rfl (Mod.refl _ _) | exact hK _ _ (HI.out.val_ 1 rfl rfl rfl (Mod.refl _ _))
                refine opsOkG_cons ?_ ?_
                · intro K vs W L hI hD hnL hK
                  have dq1 : vs 1 = .pointer (some ⟨bx, 4, none⟩) := hI.at_ 1 (hD 1 (by decide)) rfl
                  try dsimp only at hK ⊢
                  simp only [Act.put, List.setIfInBounds_toArray, List.set_cons_succ, List.set_cons_zero] at hK
                  have HI := Lib.hid hI
                  try rw [dq1] at hK ⊢
                  have hbk := HB.out.at HI.out.mod
                  have q4 := hbk.cell 4 rfl
                  clear hI hD hnL
                  go_wp2
                  first | exact HI.out.val_ 2 rfl rfl rfl (Mod.refl _ _) | exact hK _ _ (HI.out.val_ 2 rfl rfl rfl (Mod.refl _ _))
                refine opsOkG_cons ?_ ?_
                · intro K vs W L hI hD hnL hK
                  have dq2 : vs 2 = .int .i64 mw := hI.at_ 2 (hD 2 (by decide)) rfl
                  try dsimp only at hK ⊢
                  simp only [Act.put, List.setIfInBounds_toArray, List.set_cons_succ, List.set_cons_zero] at hK
                  have HI := Lib.hid hI
                  try rw [dq2] at hK ⊢
                  clear hI hD hnL
                  go_wp2
                  first | exact HI.out.lit_ 3 [mw] rfl rfl ⟨W.heap.size, rfl, Blk.new _ _ _⟩ (Mod.alloc _ _ _) | exact hK _ _ (HI.out.lit_ 3 [mw] rfl rfl ⟨W.heap.size, rfl, Blk.new _ _ _⟩ (Mod.alloc _ _ _))
                refine opsOkG_cons ?_ ?_
                · intro K vs W L hI hD hnL hK
                  have dq0 : vs 0 = .pointer (some ⟨p, 0, none⟩) := hI.at_ 0 (hD 0 (by decide)) rfl
                  obtain ⟨F, hw⟩ := hI.was_ 4 0 rfl rfl hnL (.inl rfl)
                  replace hw : WrSt wB W p s1 F := hw
                  have HPV := Lib.hid (show ChPrev (me12_K wB w2 p bx a n c mw s1 s2 s3 s4) 0 L from (.inl rfl))
                  have HNL := Lib.hid hnL
                  have hv := hI.row_ 3 [mw] (hD 3 (by decide)) rfl
                  try dsimp only at hK ⊢
                  simp only [Act.put, List.setIfInBounds_toArray, List.set_cons_succ, List.set_cons_zero] at hK
                  have HI := Lib.hid hI
                  try rw [dq0] at hK ⊢
                  clear hI hD hnL
                  go_wp2_with (go_at_call 25; refine (nums_lit2 hw 5 _ [mw] hv (by simp) (by omega)).mono ?_; rintro e' w' ⟨rfl, F', hW', hT'⟩)
                  rw [HS2.out] at hW'
                  first | exact HI.out.call_ 4 0 rfl rfl rfl rfl HNL.out HPV.out rfl hW' hT' | exact hK _ _ (HI.out.call_ 4 0 rfl rfl rfl rfl HNL.out HPV.out rfl hW' hT')
                refine opsOkG_cons ?_ ?_
                · intro K vs W L hI hD hnL hK
                  try dsimp only at hK ⊢
                  simp only [Act.put, List.setIfInBounds_toArray, List.set_cons_succ, List.set_cons_zero] at hK
                  have HI := Lib.hid hI
                  clear hI hD hnL
                  go_wp2
                  first | exact HI.out.val_ 5 rfl rfl rfl (Mod.refl _ _) | exact hK _ _ (HI.out.val_ 5 rfl rfl rfl (Mod.refl _ _))
                refine opsOkG_cons ?_ ?_
                · intro K vs W L hI hD hnL hK
                  have dq5 : vs 5 = .pointer (some ⟨bx, 3, none⟩) := hI.at_ 5 (hD 5 (by decide)) rfl
                  try dsimp only at hK ⊢
                  simp only [Act.put, List.setIfInBounds_toArray, List.set_cons_succ, List.set_cons_zero] at hK
                  have HI := Lib.hid hI
                  try rw [dq5] at hK ⊢
                  have hbk := HB.out.at HI.out.mod
                  have q3 := hbk.cell 3 rfl
                  clear hI hD hnL
                  go_wp2
                  first | exact HI.out.val_ 6 rfl rfl rfl (Mod.refl _ _) | exact hK _ _ (HI.out.val_ 6 rfl rfl rfl (Mod.refl _ _))
                refine opsOkG_cons ?_ ?_
                · intro K vs W L hI hD hnL hK
                  have dq6 : vs 6 = .slice a n c := hI.at_ 6 (hD 6 (by decide)) rfl
                  try dsimp only at hK ⊢
                  simp only [Act.put, List.setIfInBounds_toArray, List.set_cons_succ, List.set_cons_zero] at hK
                  have HI := Lib.hid hI
                  try rw [dq6] at hK ⊢
                  clear hI hD hnL
                  go_wp2
                  first | exact HI.out.val_ 7 rfl rfl rfl (Mod.refl _ _) | exact hK _ _ (HI.out.val_ 7 rfl rfl rfl (Mod.refl _ _))
                refine opsOkG_cons ?_ ?_
                · intro K vs W L hI hD hnL hK
                  have dq7 : vs 7 = .int .i64 (n : Int) := hI.at_ 7 (hD 7 (by decide)) rfl
                  try dsimp only at hK ⊢
                  simp only [Act.put, List.setIfInBounds_toArray, List.set_cons_succ, List.set_cons_zero] at hK
                  have HI := Lib.hid hI
                  try rw [dq7] at hK ⊢
                  clear hI hD hnL
                  go_wp2
                  first | exact HI.out.lit_ 8 [(n : Int)] rfl rfl ⟨W.heap.size, rfl, Blk.new _ _ _⟩ (Mod.alloc _ _ _) | exact hK _ _ (HI.out.lit_ 8 [(n : Int)] rfl rfl ⟨W.heap.size, rfl, Blk.new _ _ _⟩ (Mod.alloc _ _ _))
                refine opsOkG_cons ?_ ?_
                · intro K vs W L hI hD hnL hK
                  have dq4 : vs 4 = .pointer (some ⟨p, 0, none⟩) := hI.at_ 4 (hD 4 (by decide)) rfl
                  obtain ⟨F, hw⟩ := hI.was_ 9 1 rfl rfl hnL (.inr (hD 4 (by decide)))
                  replace hw : WrSt wB W p s2 F := hw
                  have HPV := Lib.hid (show ChPrev (me12_K wB w2 p bx a n c mw s1 s2 s3 s4) 1 L from (.inr (hD 4 (by decide))))
                  have HNL := Lib.hid hnL
                  have hv := hI.row_ 8 [(n : Int)] (hD 8 (by decide)) rfl
                  try dsimp only at hK ⊢
                  simp only [Act.put, List.setIfInBounds_toArray, List.set_cons_succ, List.set_cons_zero] at hK
                  have HI := Lib.hid hI
                  try rw [dq4] at hK ⊢
                  clear hI hD hnL
                  go_wp2_with (go_at_call 25; refine (nums_lit2 hw 2 _ [(n : Int)] hv (by simp) (by omega)).mono ?_; rintro e' w' ⟨rfl, F', hW', hT'⟩)
                  rw [HS3.out] at hW'
                  first | exact HI.out.call_ 9 1 rfl rfl rfl rfl HNL.out HPV.out rfl hW' hT' | exact hK _ _ (HI.out.call_ 9 1 rfl rfl rfl rfl HNL.out HPV.out rfl hW' hT')
                refine opsOkG_cons ?_ ?_
                · intro K vs W L hI hD hnL hK
                  try dsimp only at hK ⊢
                  simp only [Act.put, List.setIfInBounds_toArray, List.set_cons_succ, List.set_cons_zero] at hK
                  have HI := Lib.hid hI
                  clear hI hD hnL
                  go_wp2
                  first | exact HI.out.val_ 10 rfl rfl rfl (Mod.refl _ _) | exact hK _ _ (HI.out.val_ 10 rfl rfl rfl (Mod.refl _ _))
                refine opsOkG_cons ?_ ?_
                · intro K vs W L hI hD hnL hK
                  have dq10 : vs 10 = .pointer (some ⟨bx, 3, none⟩) := hI.at_ 10 (hD 10 (by decide)) rfl
                  try dsimp only at hK ⊢
                  simp only [Act.put, List.setIfInBounds_toArray, List.set_cons_succ, List.set_cons_zero] at hK
                  have HI := Lib.hid hI
                  try rw [dq10] at hK ⊢
                  have hbk := HB.out.at HI.out.mod
                  have q3 := hbk.cell 3 rfl
                  clear hI hD hnL
                  go_wp2
                  first | exact HI.out.val_ 11 rfl rfl rfl (Mod.refl _ _) | exact hK _ _ (HI.out.val_ 11 rfl rfl rfl (Mod.refl _ _))
                refine opsOkG_cons ?_ ?_
                · intro K vs W L hI hD hnL hK
                  have dq9 : vs 9 = .pointer (some ⟨p, 0, none⟩) := hI.at_ 9 (hD 9 (by decide)) rfl
                  have dq11 : vs 11 = .slice a n c := hI.at_ 11 (hD 11 (by decide)) rfl
                  obtain ⟨F, hw⟩ := hI.was_ 12 2 rfl rfl hnL (.inr (hD 9 (by decide)))
                  replace hw : WrSt wB W p s3 F := hw
                  have HPV := Lib.hid (show ChPrev (me12_K wB w2 p bx a n c mw s1 s2 s3 s4) 2 L from (.inr (hD 9 (by decide))))
                  have HNL := Lib.hid hnL
                  try dsimp only at hK ⊢
                  simp only [Act.put, List.setIfInBounds_toArray, List.set_cons_succ, List.set_cons_zero] at hK
                  have HI := Lib.hid hI
                  try rw [dq9] at hK ⊢
                  try rw [dq11] at hK ⊢
                  clear hI hD hnL
                  go_wp2_with (go_at_call 25; refine (nums_old2 hw 2 (.slice a n c) ed (by rw [HN.out]; exact HR.out) (by have := HN.out; omega)).mono ?_; rintro e' w' ⟨rfl, F', hW', hT'⟩)
                  rw [HS4.out] at hW'
                  first | exact HI.out.call_ 12 2 rfl rfl rfl rfl HNL.out HPV.out rfl hW' hT' | exact hK _ _ (HI.out.call_ 12 2 rfl rfl rfl rfl HNL.out HPV.out rfl hW' hT')
                exact opsOkG_nil
              · intro vs W L hI hall
                obtain ⟨F5, h5⟩ := hI.done (fun j hj => hall _ (Nat.lt_of_lt_of_le ((show ∀ j, j < 3 → ([4, 9, 12] : List Nat).getD j 0 < 13 by decide) j hj) (by decide)))
                replace h5 : WrSt wB W p s4 F5 := h5
                have H5 := Lib.hid (WS.of h5)
                clear h5 hI hall
                try dsimp only
                go_wp2_with fail
                go_meet
                exact ⟨_, by unfold mBytes; simp only; rw [if_neg K1.out, if_neg (fun h => h.elim K2.out K9.out), if_pos K5.out, if_neg (by have := HN.out; omega), HS1.out]; rw [HN.out, HS2.out, HS3.out, HS4.out]; exact H5.out⟩
          case neg =>
            have z5 : (mk == 5) = false := by rw [beq_eq_false_iff_ne]; exact k5
            have K5 := Lib.hid k5
            clear k5
            by_cases k7 : mk = 7
            case pos =>
              have z7 : (mk == 7) = true := by rw [k7]; rfl
              have K7 := Lib.hid k7
              clear k7
              obtain ⟨bh, hbh⟩ : ∃ b, w2.heap.size = b := ⟨_, rfl⟩
              obtain ⟨wh, hwh⟩ : ∃ W, w2.alloc (.cells #[.int .i64 mc, .int .i64 me, .int .i64 mf, .int .i64 ml] 24) = W := ⟨_, rfl⟩
              have hH : Blk wh bh 24 [.int .i64 mc, .int .i64 me, .int .i64 mf, .int .i64 ml] := by rw [← hwh, ← hbh]; exact Blk.new _ _ [.int .i64 mc, .int .i64 me, .int .i64 mf, .int .i64 ml]
              have hmh : Mod (fun _ => False) w2 wh := by rw [← hwh]; exact Mod.alloc _ _ _
              have HDW : Hid (WS wB wh p s1 [(bh, 24, [.int .i64 mc, .int .i64 me, .int .i64 mf, .int .i64 ml]), (b1, 3, [.int .i64 mk])]) := Lib.hid (by rw [← hwh, ← hbh]; exact H2.out.al 24 [.int .i64 mc, .int .i64 me, .int .i64 mf, .int .i64 ml])
              go_upto_region 15 with fail
              try rw [hwh]
              try rw [hbh]
              clear hwh hbh
              clear hH hmh
              clear q0 q1 q2 q3 q4 q5 q6 q7 q8 lb
              obtain ⟨s2, hs2⟩ : ∃ x, numsS 1 [mc] s1 = x := ⟨_, rfl⟩
              have hl2 : (s2.getD []).length ≤ 14 := by rw [← hs2]; have := numsS_len 1 [mc] s1; simp at this; omega
              have HS2 := Lib.hid hs2
              clear hs2
              have hem1 := HE.out.1
              have hem2 := HE.out.2
              by_cases hmx : me = 9223372036854775807
              case pos =>
                have HE1 : Hid (edge1 me = (-9223372036854775808)) := Lib.hid (by unfold edge1; rw [if_pos hmx])
                subst hmx
                obtain ⟨s3, hs3⟩ : ∃ x, numsS 2 [(-9223372036854775808)] s2 = x := ⟨_, rfl⟩
                have hl3 : (s3.getD []).length ≤ 21 := by rw [← hs3]; have := numsS_len 2 [(-9223372036854775808)] s2; simp at this; omega
                have HS3 := Lib.hid hs3
                clear hs3
                obtain ⟨s4, hs4⟩ : ∃ x, numsS 5 [mf, ml] s3 = x := ⟨_, rfl⟩
                have HS4 := Lib.hid hs4
                clear hs4
                have hhb := HDW.out.blk (q := bh) (T := 24) (cs := [.int .i64 mc, .int .i64 9223372036854775807, .int .i64 mf, .int .i64 ml]) (by simp)
                have HHB := Lib.hid hhb
                obtain ⟨⟨F2, hwr, _⟩⟩ := HDW.out
                have HWR := Lib.hid hwr
                clear hwr hhb
                refine wp_region_gen (act := ?actme15a) (ChI (me15a_K wB wh p bh mc mf ml s1 s2 s3 s4)) (fun i => me15a_D.getD i []) (by kernel_rfl) (by kernel_rfl) (by kernel_rfl) (by kernel_rfl) ?hactme15a ?h0me15a ?_ ?_
                case hactme15a => intro vs; simp only [putAll, Nat.zero_add, Nat.reduceAdd, Act.put, List.setIfInBounds_toArray, List.set_cons_succ, List.set_cons_zero]; exact rfl
                case h0me15a => intro vs; exact ChI.start (K := me15a_K wB wh p bh mc mf ml s1 s2 s3 s4) HWR.out
                · refine opsOkG_cons ?_ ?_
                  · intro K vs W L hI hD hnL hK
                    try dsimp only at hK ⊢
                    simp only [Act.put, List.setIfInBounds_toArray, List.set_cons_succ, List.set_cons_zero] at hK
                    have HI := Lib.hid hI
                    clear hI hD hnL
                    go_wp2
                    first | exact HI.out.val_ 0 rfl rfl rfl (Mod.refl _ _) | exact hK _ _ (HI.out.val_ 0 rfl rfl rfl (Mod.refl _ _))
                  refine opsOkG_cons ?_ ?_
                  · intro K vs W L hI hD hnL hK
                    try dsimp only at hK ⊢
                    simp only [Act.put, List.setIfInBounds_toArray, List.set_cons_succ, List.set_cons_zero] at hK
                    have HI := Lib.hid hI
                    clear hI hD hnL
                    go_wp2
                    first | exact HI.out.val_ 1 rfl rfl rfl (Mod.refl _ _) | exact hK _ _ (HI.out.val_ 1 rfl rfl rfl (Mod.refl _ _))
                  refine opsOkG_cons ?_ ?_
                  · intro K vs W L hI hD hnL hK
                    have dq1 : vs 1 = .pointer (some ⟨bh, 0, none⟩) := hI.at_ 1 (hD 1 (by decide)) rfl
                    try dsimp only at hK ⊢
                    simp only [Act.put, List.setIfInBounds_toArray, List.set_cons_succ, List.set_cons_zero] at hK
                    have HI := Lib.hid hI
                    try rw [dq1] at hK ⊢
                    have hbk := HI.out.typ bh 24 [.int .i64 mc, .int .i64 9223372036854775807, .int .i64 mf, .int .i64 ml] (by decide) (by decide) HHB.out
                    have q0 := hbk.cell 0 rfl
                    clear hI hD hnL
                    go_wp2
                    first | exact HI.out.val_ 2 rfl rfl rfl (Mod.refl _ _) | exact hK _ _ (HI.out.val_ 2 rfl rfl rfl (Mod.refl _ _))
                  refine opsOkG_cons ?_ ?_
                  · intro K vs W L hI hD hnL hK
                    have dq2 : vs 2 = .int .i64 mc := hI.at_ 2 (hD 2 (by decide)) rfl
                    try dsimp only at hK ⊢
                    simp only [Act.put, List.setIfInBounds_toArray, List.set_cons_succ, List.set_cons_zero] at hK
                    have HI := Lib.hid hI
                    try rw [dq2] at hK ⊢
                    clear hI hD hnL
                    go_wp2
                    first | exact HI.out.lit_ 3 [mc] rfl rfl ⟨W.heap.size, rfl, Blk.new _ _ _⟩ (Mod.alloc _ _ _) | exact hK _ _ (HI.out.lit_ 3 [mc] rfl rfl ⟨W.heap.size, rfl, Blk.new _ _ _⟩ (Mod.alloc _ _ _))
                  refine opsOkG_cons ?_ ?_
                  · intro K vs W L hI hD hnL hK
                    have dq0 : vs 0 = .pointer (some ⟨p, 0, none⟩) := hI.at_ 0 (hD 0 (by decide)) rfl
                    obtain ⟨F, hw⟩ := hI.was_ 4 0 rfl rfl hnL (.inl rfl)
                    replace hw : WrSt wB W p s1 F := hw
                    have HPV := Lib.hid (show ChPrev (me15a_K wB wh p bh mc mf ml s1 s2 s3 s4) 0 L from (.inl rfl))
                    have HNL := Lib.hid hnL
                    have hv := hI.row_ 3 [mc] (hD 3 (by decide)) rfl
                    try dsimp only at hK ⊢
                    simp only [Act.put, List.setIfInBounds_toArray, List.set_cons_succ, List.set_cons_zero] at hK
                    have HI := Lib.hid hI
                    try rw [dq0] at hK ⊢
                    clear hI hD hnL
                    go_wp2_with (go_at_call 25; refine (nums_lit2 hw 1 _ [mc] hv (by simp) (by omega)).mono ?_; rintro e' w' ⟨rfl, F', hW', hT'⟩)
                    rw [HS2.out] at hW'
                    first | exact HI.out.call_ 4 0 rfl rfl rfl rfl HNL.out HPV.out rfl hW' hT' | exact hK _ _ (HI.out.call_ 4 0 rfl rfl rfl rfl HNL.out HPV.out rfl hW' hT')
                  refine opsOkG_cons ?_ ?_
                  · intro K vs W L hI hD hnL hK
                    try dsimp only at hK ⊢
                    simp only [Act.put, List.setIfInBounds_toArray, List.set_cons_succ, List.set_cons_zero] at hK
                    have HI := Lib.hid hI
                    clear hI hD hnL
                    go_wp2
                    first | exact HI.out.val_ 5 rfl rfl rfl (Mod.refl _ _) | exact hK _ _ (HI.out.val_ 5 rfl rfl rfl (Mod.refl _ _))
                  refine opsOkG_cons ?_ ?_
                  · intro K vs W L hI hD hnL hK
                    have dq5 : vs 5 = .pointer (some ⟨bh, 1, none⟩) := hI.at_ 5 (hD 5 (by decide)) rfl
                    try dsimp only at hK ⊢
                    simp only [Act.put, List.setIfInBounds_toArray, List.set_cons_succ, List.set_cons_zero] at hK
                    have HI := Lib.hid hI
                    try rw [dq5] at hK ⊢
                    have hbk := HI.out.typ bh 24 [.int .i64 mc, .int .i64 9223372036854775807, .int .i64 mf, .int .i64 ml] (by decide) (by decide) HHB.out
                    have q1 := hbk.cell 1 rfl
                    clear hI hD hnL
                    go_wp2
                    first | exact HI.out.val_ 6 rfl rfl rfl (Mod.refl _ _) | exact hK _ _ (HI.out.val_ 6 rfl rfl rfl (Mod.refl _ _))
                  refine opsOkG_cons ?_ ?_
                  · intro K vs W L hI hD hnL hK
                    have dq6 : vs 6 = .int .i64 9223372036854775807 := hI.at_ 6 (hD 6 (by decide)) rfl
                    try dsimp only at hK ⊢
                    simp only [Act.put, List.setIfInBounds_toArray, List.set_cons_succ, List.set_cons_zero] at hK
                    have HI := Lib.hid hI
                    try rw [dq6] at hK ⊢
                    clear hI hD hnL
                    go_wp2
                    first | exact HI.out.val_ 7 rfl rfl (show _ = Value.int .i64 (-9223372036854775808) from congrArg (Value.int .i64) (by first | rfl | decide +kernel)) (Mod.refl _ _) | exact hK _ _ (HI.out.val_ 7 rfl rfl (show _ = Value.int .i64 (-9223372036854775808) from congrArg (Value.int .i64) (by first | rfl | decide +kernel)) (Mod.refl _ _))
                  refine opsOkG_cons ?_ ?_
                  · intro K vs W L hI hD hnL hK
                    have dq7 : vs 7 = .int .i64 (-9223372036854775808) := hI.at_ 7 (hD 7 (by decide)) rfl
                    try dsimp only at hK ⊢
                    simp only [Act.put, List.setIfInBounds_toArray, List.set_cons_succ, List.set_cons_zero] at hK
                    have HI := Lib.hid hI
                    try rw [dq7] at hK ⊢
                    clear hI hD hnL
                    go_wp2
                    first | exact HI.out.lit_ 8 [(-9223372036854775808)] rfl rfl ⟨W.heap.size, rfl, Blk.new _ _ _⟩ (Mod.alloc _ _ _) | exact hK _ _ (HI.out.lit_ 8 [(-9223372036854775808)] rfl rfl ⟨W.heap.size, rfl, Blk.new _ _ _⟩ (Mod.alloc _ _ _))
                  refine opsOkG_cons ?_ ?_
                  · intro K vs W L hI hD hnL hK
                    have dq4 : vs 4 = .pointer (some ⟨p, 0, none⟩) := hI.at_ 4 (hD 4 (by decide)) rfl
                    obtain ⟨F, hw⟩ := hI.was_ 9 1 rfl rfl hnL (.inr (hD 4 (by decide)))
                    replace hw : WrSt wB W p s2 F := hw
                    have HPV := Lib.hid (show ChPrev (me15a_K wB wh p bh mc mf ml s1 s2 s3 s4) 1 L from (.inr (hD 4 (by decide))))
                    have HNL := Lib.hid hnL
                    have hv := hI.row_ 8 [(-9223372036854775808)] (hD 8 (by decide)) rfl
                    try dsimp only at hK ⊢
                    simp only [Act.put, List.setIfInBounds_toArray, List.set_cons_succ, List.set_cons_zero] at hK
                    have HI := Lib.hid hI
                    try rw [dq4] at hK ⊢
                    clear hI hD hnL
                    go_wp2_with (go_at_call 25; refine (nums_lit2 hw 2 _ [(-9223372036854775808)] hv (by simp) (by omega)).mono ?_; rintro e' w' ⟨rfl, F', hW', hT'⟩)
                    rw [HS3.out] at hW'
                    first | exact HI.out.call_ 9 1 rfl rfl rfl rfl HNL.out HPV.out rfl hW' hT' | exact hK _ _ (HI.out.call_ 9 1 rfl rfl rfl rfl HNL.out HPV.out rfl hW' hT')
                  refine opsOkG_cons ?_ ?_
                  · intro K vs W L hI hD hnL hK
                    try dsimp only at hK ⊢
                    simp only [Act.put, List.setIfInBounds_toArray, List.set_cons_succ, List.set_cons_zero] at hK
                    have HI := Lib.hid hI
                    clear hI hD hnL
                    go_wp2
                    first | exact HI.out.val_ 10 rfl rfl rfl (Mod.refl _ _) | exact hK _ _ (HI.out.val_ 10 rfl rfl rfl (Mod.refl _ _))
                  refine opsOkG_cons ?_ ?_
                  · intro K vs W L hI hD hnL hK
                    have dq10 : vs 10 = .pointer (some ⟨bh, 2, none⟩) := hI.at_ 10 (hD 10 (by decide)) rfl
                    try dsimp only at hK ⊢
                    simp only [Act.put, List.setIfInBounds_toArray, List.set_cons_succ, List.set_cons_zero] at hK
                    have HI := Lib.hid hI
                    try rw [dq10] at hK ⊢
                    have hbk := HI.out.typ bh 24 [.int .i64 mc, .int .i64 9223372036854775807, .int .i64 mf, .int .i64 ml] (by decide) (by decide) HHB.out
                    have q2 := hbk.cell 2 rfl
                    clear hI hD hnL
                    go_wp2
                    first | exact HI.out.val_ 11 rfl rfl rfl (Mod.refl _ _) | exact hK _ _ (HI.out.val_ 11 rfl rfl rfl (Mod.refl _ _))
                  refine opsOkG_cons ?_ ?_
                  · intro K vs W L hI hD hnL hK
                    try dsimp only at hK ⊢
                    simp only [Act.put, List.setIfInBounds_toArray, List.set_cons_succ, List.set_cons_zero] at hK
                    have HI := Lib.hid hI
                    clear hI hD hnL
                    go_wp2
                    first | exact HI.out.val_ 12 rfl rfl rfl (Mod.refl _ _) | exact hK _ _ (HI.out.val_ 12 rfl rfl rfl (Mod.refl _ _))
                  refine opsOkG_cons ?_ ?_
                  · intro K vs W L hI hD hnL hK
                    have dq12 : vs 12 = .pointer (some ⟨bh, 3, none⟩) := hI.at_ 12 (hD 12 (by decide)) rfl
                    try dsimp only at hK ⊢
                    simp only [Act.put, List.setIfInBounds_toArray, List.set_cons_succ, List.set_cons_zero] at hK
                    have HI := Lib.hid hI
                    try rw [dq12] at hK ⊢
                    have hbk := HI.out.typ bh 24 [.int .i64 mc, .int .i64 9223372036854775807, .int .i64 mf, .int .i64 ml] (by decide) (by decide) HHB.out
                    have q3 := hbk.cell 3 rfl
                    clear hI hD hnL
                    go_wp2
                    first | exact HI.out.val_ 13 rfl rfl rfl (Mod.refl _ _) | exact hK _ _ (HI.out.val_ 13 rfl rfl rfl (Mod.refl _ _))
                  refine opsOkG_cons ?_ ?_
                  · intro K vs W L hI hD hnL hK
                    have dq11 : vs 11 = .int .i64 mf := hI.at_ 11 (hD 11 (by decide)) rfl
                    have dq13 : vs 13 = .int .i64 ml := hI.at_ 13 (hD 13 (by decide)) rfl
                    try dsimp only at hK ⊢
                    simp only [Act.put, List.setIfInBounds_toArray, List.set_cons_succ, List.set_cons_zero] at hK
                    have HI := Lib.hid hI
                    try rw [dq11] at hK ⊢
                    try rw [dq13] at hK ⊢
                    clear hI hD hnL
                    go_wp2
                    first | exact HI.out.lit_ 14 [mf, ml] rfl rfl ⟨W.heap.size, rfl, Blk.new _ _ _⟩ (Mod.alloc _ _ _) | exact hK _ _ (HI.out.lit_ 14 [mf, ml] rfl rfl ⟨W.heap.size, rfl, Blk.new _ _ _⟩ (Mod.alloc _ _ _))
                  refine opsOkG_cons ?_ ?_
                  · intro K vs W L hI hD hnL hK
                    have dq9 : vs 9 = .pointer (some ⟨p, 0, none⟩) := hI.at_ 9 (hD 9 (by decide)) rfl
                    obtain ⟨F, hw⟩ := hI.was_ 15 2 rfl rfl hnL (.inr (hD 9 (by decide)))
                    replace hw : WrSt wB W p s3 F := hw
                    have HPV := Lib.hid (show ChPrev (me15a_K wB wh p bh mc mf ml s1 s2 s3 s4) 2 L from (.inr (hD 9 (by decide))))
                    have HNL := Lib.hid hnL
                    have hv := hI.row_ 14 [mf, ml] (hD 14 (by decide)) rfl
                    try dsimp only at hK ⊢
                    simp only [Act.put, List.setIfInBounds_toArray, List.set_cons_succ, List.set_cons_zero] at hK
                    have HI := Lib.hid hI
                    try rw [dq9] at hK ⊢
                    clear hI hD hnL
                    go_wp2_with (go_at_call 25; refine (nums_lit2 hw 5 _ [mf, ml] hv (by simp) (by omega)).mono ?_; rintro e' w' ⟨rfl, F', hW', hT'⟩)
                    rw [HS4.out] at hW'
                    first | exact HI.out.call_ 15 2 rfl rfl rfl rfl HNL.out HPV.out rfl hW' hT' | exact hK _ _ (HI.out.call_ 15 2 rfl rfl rfl rfl HNL.out HPV.out rfl hW' hT')
                  exact opsOkG_nil
                · intro vs W L hI hall
                  obtain ⟨F5, h5⟩ := hI.done (fun j hj => hall _ (Nat.lt_of_lt_of_le ((show ∀ j, j < 3 → ([4, 9, 15] : List Nat).getD j 0 < 16 by decide) j hj) (by decide)))
                  replace h5 : WrSt wB W p s4 F5 := h5
                  have H5 := Lib.hid (WS.of h5)
                  clear h5 hI hall
                  try dsimp only
                  go_wp2_with fail
                  go_meet
                  exact ⟨_, by unfold mBytes; simp only; rw [if_neg K1.out, if_neg (fun h => h.elim K2.out K9.out), if_neg K5.out, if_pos K7.out, HS1.out]; rw [HS2.out, HE1.out, HS3.out, HS4.out]; exact H5.out⟩
              case neg =>
                have HE1 : Hid (edge1 me = (me + 1)) := Lib.hid (by unfold edge1; rw [if_neg hmx])
                have hem3 : me ≤ 9223372036854775806 := by omega
                clear hmx
                obtain ⟨s3, hs3⟩ : ∃ x, numsS 2 [(me + 1)] s2 = x := ⟨_, rfl⟩
                have hl3 : (s3.getD []).length ≤ 21 := by rw [← hs3]; have := numsS_len 2 [(me + 1)] s2; simp at this; omega
                have HS3 := Lib.hid hs3
                clear hs3
                obtain ⟨s4, hs4⟩ : ∃ x, numsS 5 [mf, ml] s3 = x := ⟨_, rfl⟩
                have HS4 := Lib.hid hs4
                clear hs4
                have hhb := HDW.out.blk (q := bh) (T := 24) (cs := [.int .i64 mc, .int .i64 me, .int .i64 mf, .int .i64 ml]) (by simp)
                have HHB := Lib.hid hhb
                obtain ⟨⟨F2, hwr, _⟩⟩ := HDW.out
                have HWR := Lib.hid hwr
                clear hwr hhb
                refine wp_region_gen (act := ?actme15b) (ChI (me15b_K wB wh p bh mc me mf ml s1 s2 s3 s4)) (fun i => me15b_D.getD i []) (by kernel_rfl) (by kernel_rfl) (by kernel_rfl) (by kernel_rfl) ?hactme15b ?h0me15b ?_ ?_
                case hactme15b => intro vs; simp only [putAll, Nat.zero_add, Nat.reduceAdd, Act.put, List.setIfInBounds_toArray, List.set_cons_succ, List.set_cons_zero]; exact rfl
                case h0me15b => intro vs; exact ChI.start (K := me15b_K wB wh p bh mc me mf ml s1 s2 s3 s4) HWR.out
                · refine opsOkG_cons ?_ ?_
                  · intro K vs W L hI hD hnL hK
                    try dsimp only at hK ⊢
                    simp only [Act.put, List.setIfInBounds_toArray, List.set_cons_succ, List.set_cons_zero] at hK
                    have HI := Lib.hid hI
                    clear hI hD hnL
                    go_wp2
                    first | exact HI.out.val_ 0 rfl rfl rfl (Mod.refl _ _) | exact hK _ _ (HI.out.val_ 0 rfl rfl rfl (Mod.refl _ _))
                  refine opsOkG_cons ?_ ?_
                  · intro K vs W L hI hD hnL hK
                    try dsimp only at hK ⊢
                    simp only [Act.put, List.setIfInBounds_toArray, List.set_cons_succ, List.set_cons_zero] at hK
                    have HI := Lib.hid hI
                    clear hI hD hnL
                    go_wp2
                    first | exact HI.out.val_ 1 rfl rfl rfl (Mod.refl _ _) | exact hK _ _ (HI.out.val_ 1 rfl rfl rfl (Mod.refl _ _))
                  refine opsOkG_cons ?_ ?_
                  · intro K vs W L hI hD hnL hK
                    have dq1 : vs 1 = .pointer (some ⟨bh, 0, none⟩) := hI.at_ 1 (hD 1 (by decide)) rfl
                    try dsimp only at hK ⊢
                    simp only [Act.put, List.setIfInBounds_toArray, List.set_cons_succ, List.set_cons_zero] at hK
                    have HI := Lib.hid hI
                    try rw [dq1] at hK ⊢
                    have hbk := HI.out.typ bh 24 [.int .i64 mc, .int .i64 me, .int .i64 mf, .int .i64 ml] (by decide) (by decide) HHB.out
                    have q0 := hbk.cell 0 rfl
                    clear hI hD hnL
                    go_wp2
                    first | exact HI.out.val_ 2 rfl rfl rfl (Mod.refl _ _) | exact hK _ _ (HI.out.val_ 2 rfl rfl rfl (Mod.refl _ _))
                  refine opsOkG_cons ?_ ?_
                  · intro K vs W L hI hD hnL hK
                    have dq2 : vs 2 = .int .i64 mc := hI.at_ 2 (hD 2 (by decide)) rfl
                    try dsimp only at hK ⊢
                    simp only [Act.put, List.setIfInBounds_toArray, List.set_cons_succ, List.set_cons_zero] at hK
                    have HI := Lib.hid hI
                    try rw [dq2] at hK ⊢
                    clear hI hD hnL
                    go_wp2
                    first | exact HI.out.lit_ 3 [mc] rfl rfl ⟨W.heap.size, rfl, Blk.new _ _ _⟩ (Mod.alloc _ _ _) | exact hK _ _ (HI.out.lit_ 3 [mc] rfl rfl ⟨W.heap.size, rfl, Blk.new _ _ _⟩ (Mod.alloc _ _ _))
                  refine opsOkG_cons ?_ ?_
                  · intro K vs W L hI hD hnL hK
                    have dq0 : vs 0 = .pointer (some ⟨p, 0, none⟩) := hI.at_ 0 (hD 0 (by decide)) rfl
                    obtain ⟨F, hw⟩ := hI.was_ 4 0 rfl rfl hnL (.inl rfl)
                    replace hw : WrSt wB W p s1 F := hw
                    have HPV := Lib.hid (show ChPrev (me15b_K wB wh p bh mc me mf ml s1 s2 s3 s4) 0 L from (.inl rfl))
                    have HNL := Lib.hid hnL
                    have hv := hI.row_ 3 [mc] (hD 3 (by decide)) rfl
                    try dsimp only at hK ⊢
                    simp only [Act.put, List.setIfInBounds_toArray, List.set_cons_succ, List.set_cons_zero] at hK
                    have HI := Lib.hid hI
                    try rw [dq0] at hK ⊢
                    clear hI hD hnL
                    go_wp2_with (go_at_call 25; refine (nums_lit2 hw 1 _ [mc] hv (by simp) (by omega)).mono ?_; rintro e' w' ⟨rfl, F', hW', hT'⟩)
                    rw [HS2.out] at hW'
                    first | exact HI.out.call_ 4 0 rfl rfl rfl rfl HNL.out HPV.out rfl hW' hT' | exact hK _ _ (HI.out.call_ 4 0 rfl rfl rfl rfl HNL.out HPV.out rfl hW' hT')
                  refine opsOkG_cons ?_ ?_
                  · intro K vs W L hI hD hnL hK
                    try dsimp only at hK ⊢
                    simp only [Act.put, List.setIfInBounds_toArray, List.set_cons_succ, List.set_cons_zero] at hK
                    have HI := Lib.hid hI
                    clear hI hD hnL
                    go_wp2
                    first | exact HI.out.val_ 5 rfl rfl rfl (Mod.refl _ _) | exact hK _ _ (HI.out.val_ 5 rfl rfl rfl (Mod.refl _ _))
                  refine opsOkG_cons ?_ ?_
                  · intro K vs W L hI hD hnL hK
                    have dq5 : vs 5 = .pointer (some ⟨bh, 1, none⟩) := hI.at_ 5 (hD 5 (by decide)) rfl
                    try dsimp only at hK ⊢
                    simp only [Act.put, List.setIfInBounds_toArray, List.set_cons_succ, List.set_cons_zero] at hK
                    have HI := Lib.hid hI
                    try rw [dq5] at hK ⊢
                    have hbk := HI.out.typ bh 24 [.int .i64 mc, .int .i64 me, .int .i64 mf, .int .i64 ml] (by decide) (by decide) HHB.out
                    have q1 := hbk.cell 1 rfl
                    clear hI hD hnL
                    go_wp2
                    first | exact HI.out.val_ 6 rfl rfl rfl (Mod.refl _ _) | exact hK _ _ (HI.out.val_ 6 rfl rfl rfl (Mod.refl _ _))
                  refine opsOkG_cons ?_ ?_
                  · intro K vs W L hI hD hnL hK
                    have dq6 : vs 6 = .int .i64 me := hI.at_ 6 (hD 6 (by decide)) rfl
                    try dsimp only at hK ⊢
                    simp only [Act.put, List.setIfInBounds_toArray, List.set_cons_succ, List.set_cons_zero] at hK
                    have HI := Lib.hid hI
                    try rw [dq6] at hK ⊢
                    clear hI hD hnL
                    go_wp2
                    first | exact HI.out.val_ 7 rfl rfl rfl (Mod.refl _ _) | exact hK _ _ (HI.out.val_ 7 rfl rfl rfl (Mod.refl _ _))
                  refine opsOkG_cons ?_ ?_
                  · intro K vs W L hI hD hnL hK
                    have dq7 : vs 7 = .int .i64 (me + 1) := hI.at_ 7 (hD 7 (by decide)) rfl
                    try dsimp only at hK ⊢
                    simp only [Act.put, List.setIfInBounds_toArray, List.set_cons_succ, List.set_cons_zero] at hK
                    have HI := Lib.hid hI
                    try rw [dq7] at hK ⊢
                    clear hI hD hnL
                    go_wp2
                    first | exact HI.out.lit_ 8 [(me + 1)] rfl rfl ⟨W.heap.size, rfl, Blk.new _ _ _⟩ (Mod.alloc _ _ _) | exact hK _ _ (HI.out.lit_ 8 [(me + 1)] rfl rfl ⟨W.heap.size, rfl, Blk.new _ _ _⟩ (Mod.alloc _ _ _))
                  refine opsOkG_cons ?_ ?_
                  · intro K vs W L hI hD hnL hK
                    have dq4 : vs 4 = .pointer (some ⟨p, 0, none⟩) := hI.at_ 4 (hD 4 (by decide)) rfl
                    obtain ⟨F, hw⟩ := hI.was_ 9 1 rfl rfl hnL (.inr (hD 4 (by decide)))
                    replace hw : WrSt wB W p s2 F := hw
                    have HPV := Lib.hid (show ChPrev (me15b_K wB wh p bh mc me mf ml s1 s2 s3 s4) 1 L from (.inr (hD 4 (by decide))))
                    have HNL := Lib.hid hnL
                    have hv := hI.row_ 8 [(me + 1)] (hD 8 (by decide)) rfl
                    try dsimp only at hK ⊢
                    simp only [Act.put, List.setIfInBounds_toArray, List.set_cons_succ, List.set_cons_zero] at hK
                    have HI := Lib.hid hI
                    try rw [dq4] at hK ⊢
                    clear hI hD hnL
                    go_wp2_with (go_at_call 25; refine (nums_lit2 hw 2 _ [(me + 1)] hv (by simp) (by omega)).mono ?_; rintro e' w' ⟨rfl, F', hW', hT'⟩)
                    rw [HS3.out] at hW'
                    first | exact HI.out.call_ 9 1 rfl rfl rfl rfl HNL.out HPV.out rfl hW' hT' | exact hK _ _ (HI.out.call_ 9 1 rfl rfl rfl rfl HNL.out HPV.out rfl hW' hT')
                  refine opsOkG_cons ?_ ?_
                  · intro K vs W L hI hD hnL hK
                    try dsimp only at hK ⊢
                    simp only [Act.put, List.setIfInBounds_toArray, List.set_cons_succ, List.set_cons_zero] at hK
                    have HI := Lib.hid hI
                    clear hI hD hnL
                    go_wp2
                    first | exact HI.out.val_ 10 rfl rfl rfl (Mod.refl _ _) | exact hK _ _ (HI.out.val_ 10 rfl rfl rfl (Mod.refl _ _))
                  refine opsOkG_cons ?_ ?_
                  · intro K vs W L hI hD hnL hK
                    have dq10 : vs 10 = .pointer (some ⟨bh, 2, none⟩) := hI.at_ 10 (hD 10 (by decide)) rfl
                    try dsimp only at hK ⊢
                    simp only [Act.put, List.setIfInBounds_toArray, List.set_cons_succ, List.set_cons_zero] at hK
                    have HI := Lib.hid hI
                    try rw [dq10] at hK ⊢
                    have hbk := HI.out.typ bh 24 [.int .i64 mc, .int .i64 me, .int .i64 mf, .int .i64 ml] (by decide) (by decide) HHB.out
                    have q2 := hbk.cell 2 rfl
                    clear hI hD hnL
                    go_wp2
                    first | exact HI.out.val_ 11 rfl rfl rfl (Mod.refl _ _) | exact hK _ _ (HI.out.val_ 11 rfl rfl rfl (Mod.refl _ _))
                  refine opsOkG_cons ?_ ?_
                  · intro K vs W L hI hD hnL hK
                    try dsimp only at hK ⊢
                    simp only [Act.put, List.setIfInBounds_toArray, List.set_cons_succ, List.set_cons_zero] at hK
                    have HI := Lib.hid hI
                    clear hI hD hnL
                    go_wp2
                    first | exact HI.out.val_ 12 rfl rfl rfl (Mod.refl _ _) | exact hK _ _ (HI.out.val_ 12 rfl rfl rfl (Mod.refl _ _))
                  refine opsOkG_cons ?_ ?_
                  · intro K vs W L hI hD hnL hK
                    have dq12 : vs 12 = .pointer (some ⟨bh, 3, none⟩) := hI.at_ 12 (hD 12 (by decide)) rfl
                    try dsimp only at hK ⊢
                    simp only [Act.put, List.setIfInBounds_toArray, List.set_cons_succ, List.set_cons_zero] at hK
                    have HI := Lib.hid hI
                    try rw [dq12] at hK ⊢
                    have hbk := HI.out.typ bh 24 [.int .i64 mc, .int .i64 me, .int .i64 mf, .int .i64 ml] (by decide) (by decide) HHB.out
                    have q3 := hbk.cell 3 rfl
                    clear hI hD hnL
                    go_wp2
                    first | exact HI.out.val_ 13 rfl rfl rfl (Mod.refl _ _) | exact hK _ _ (HI.out.val_ 13 rfl rfl rfl (Mod.refl _ _))
                  refine opsOkG_cons ?_ ?_
                  · intro K vs W L hI hD hnL hK
                    have dq11 : vs 11 = .int .i64 mf := hI.at_ 11 (hD 11 (by decide)) rfl
                    have dq13 : vs 13 = .int .i64 ml := hI.at_ 13 (hD 13 (by decide)) rfl
                    try dsimp only at hK ⊢
                    simp only [Act.put, List.setIfInBounds_toArray, List.set_cons_succ, List.set_cons_zero] at hK
                    have HI := Lib.hid hI
                    try rw [dq11] at hK ⊢
                    try rw [dq13] at hK ⊢
                    clear hI hD hnL
                    go_wp2
                    first | exact HI.out.lit_ 14 [mf, ml] rfl rfl ⟨W.heap.size, rfl, Blk.new _ _ _⟩ (Mod.alloc _ _ _) | exact hK _ _ (HI.out.lit_ 14 [mf, ml] rfl rfl ⟨W.heap.size, rfl, Blk.new _ _ _⟩ (Mod.alloc _ _ _))
                  refine opsOkG_cons ?_ ?_
                  · intro K vs W L hI hD hnL hK
                    have dq9 : vs 9 = .pointer (some ⟨p, 0, none⟩) := hI.at_ 9 (hD 9 (by decide)) rfl
                    obtain ⟨F, hw⟩ := hI.was_ 15 2 rfl rfl hnL (.inr (hD 9 (by decide)))
                    replace hw : WrSt wB W p s3 F := hw
                    have HPV := Lib.hid (show ChPrev (me15b_K wB wh p bh mc me mf ml s1 s2 s3 s4) 2 L from (.inr (hD 9 (by decide))))
                    have HNL := Lib.hid hnL
                    have hv := hI.row_ 14 [mf, ml] (hD 14 (by decide)) rfl
                    try dsimp only at hK ⊢
                    simp only [Act.put, List.setIfInBounds_toArray, List.set_cons_succ, List.set_cons_zero] at hK
                    have HI := Lib.hid hI
                    try rw [dq9] at hK ⊢
                    clear hI hD hnL
                    go_wp2_with (go_at_call 25; refine (nums_lit2 hw 5 _ [mf, ml] hv (by simp) (by omega)).mono ?_; rintro e' w' ⟨rfl, F', hW', hT'⟩)
                    rw [HS4.out] at hW'
                    first | exact HI.out.call_ 15 2 rfl rfl rfl rfl HNL.out HPV.out rfl hW' hT' | exact hK _ _ (HI.out.call_ 15 2 rfl rfl rfl rfl HNL.out HPV.out rfl hW' hT')
                  exact opsOkG_nil
                · intro vs W L hI hall
                  obtain ⟨F5, h5⟩ := hI.done (fun j hj => hall _ (Nat.lt_of_lt_of_le ((show ∀ j, j < 3 → ([4, 9, 15] : List Nat).getD j 0 < 16 by decide) j hj) (by decide)))
                  replace h5 : WrSt wB W p s4 F5 := h5
                  have H5 := Lib.hid (WS.of h5)
                  clear h5 hI hall
                  try dsimp only
                  go_wp2_with fail
                  go_meet
                  exact ⟨_, by unfold mBytes; simp only; rw [if_neg K1.out, if_neg (fun h => h.elim K2.out K9.out), if_neg K5.out, if_pos K7.out, HS1.out]; rw [HS2.out, HE1.out, HS3.out, HS4.out]; exact H5.out⟩
            case neg =>
              have z7 : (mk == 7) = false := by rw [beq_eq_false_iff_ne]; exact k7
              have K7 := Lib.hid k7
              clear k7
              by_cases k3 : mk = 3
              case pos =>
                have z3 : (mk == 3) = true := by rw [k3]; rfl
                have K3 := Lib.hid k3
                clear k3
                go_wp2_with fail
                go_meet
                exact ⟨_, by unfold mBytes; simp only; rw [if_neg K1.out, if_neg (fun h => h.elim K2.out K9.out), if_neg K5.out, if_neg K7.out, if_pos (.inl K3.out), HS1.out]; exact H2.out⟩
              case neg =>
                have z3 : (mk == 3) = false := by rw [beq_eq_false_iff_ne]; exact k3
                have K3 := Lib.hid k3
                clear k3
                by_cases k4 : mk = 4
                case pos =>
                  have z4 : (mk == 4) = true := by rw [k4]; rfl
                  have K4 := Lib.hid k4
                  clear k4
                  go_wp2_with fail
                  go_meet
                  exact ⟨_, by unfold mBytes; simp only; rw [if_neg K1.out, if_neg (fun h => h.elim K2.out K9.out), if_neg K5.out, if_neg K7.out, if_pos (.inr (.inl K4.out)), HS1.out]; exact H2.out⟩
                case neg =>
                  have z4 : (mk == 4) = false := by rw [beq_eq_false_iff_ne]; exact k4
                  have K4 := Lib.hid k4
                  clear k4
                  by_cases k6 : mk = 6
                  case pos =>
                    have z6 : (mk == 6) = true := by rw [k6]; rfl
                    have K6 := Lib.hid k6
                    clear k6
                    go_wp2_with fail
                    go_meet
                    exact ⟨_, by unfold mBytes; simp only; rw [if_neg K1.out, if_neg (fun h => h.elim K2.out K9.out), if_neg K5.out, if_neg K7.out, if_pos (.inr (.inr (.inl K6.out))), HS1.out]; exact H2.out⟩
                  case neg =>
                    have z6 : (mk == 6) = false := by rw [beq_eq_false_iff_ne]; exact k6
                    have K6 := Lib.hid k6
                    clear k6
                    by_cases k8 : mk = 8
                    case pos =>
                      have z8 : (mk == 8) = true := by rw [k8]; rfl
                      have K8 := Lib.hid k8
                      clear k8
                      go_wp2_with fail
                      go_meet
                      exact ⟨_, by unfold mBytes; simp only; rw [if_neg K1.out, if_neg (fun h => h.elim K2.out K9.out), if_neg K5.out, if_neg K7.out, if_pos (.inr (.inr (.inr K8.out))), HS1.out]; exact H2.out⟩
                    case neg =>
                      have z8 : (mk == 8) = false := by rw [beq_eq_false_iff_ne]; exact k8
                      have K8 := Lib.hid k8
                      clear k8
                      have HG2 : Hid (mBytes ⟨mk, mp, md, ed, mw, mc, me, mf, ml⟩ = none) := Lib.hid (by unfold mBytes; simp only; rw [if_neg K1.out, if_neg (fun h => h.elim K2.out K9.out), if_neg K5.out, if_neg K7.out, if_neg (fun h => h.elim K3.out (fun h => h.elim K4.out (fun h => h.elim K6.out K8.out)))])
                      go_wp2_with fail
                      go_ret2
                      exact ⟨none, 0, by rw [HG2.out]; rfl, by rw [HG2.out]; exact World.ownsRow_nil _ _ _ _, HMB.out.of2 H2.out.mod⟩
  case rest =>
    obtain ⟨Q, F5, h5, _⟩ := hcut
    have hl5 := mBytes_len ⟨mk, mp, md, ed, mw, mc, me, mf, ml⟩
    obtain ⟨s5, hs5⟩ : ∃ x, mBytes ⟨mk, mp, md, ed, mw, mc, me, mf, ml⟩ = x := ⟨_, rfl⟩
    rw [hs5] at h5 hl5
    have hl6 : (s5.getD []).length ≤ 100000 := by have := HN.out; simp only at hl5; omega
    have HS5 := Lib.hid hs5
    have H5 := Lib.hid h5
    clear hs5 h5 hl5
    clear q0 q1 q2 q3 q4 q5 q6 q7 q8 lb
    go_wp2_with fail
    refine (bytes_any p wc s5 _ H5.out.r (by omega)).mono ?_
    rintro e w7 ⟨v7, rfl, hF7, hM7, a7, c7, rfl⟩
    have HF7 := Lib.hid (Own.base hF7 (Nat.le_trans HMB.out.size H5.out.mod.size))
    have HM7 := Lib.hid ((HMB.out.of2 H5.out.mod).of2 hM7)
    clear hF7 hM7
    obtain ⟨er, her⟩ : ∃ z : Int, (if s5.isNone = true then (1 : Int) else 0) = z := ⟨_, rfl⟩
    rw [her]
    have HER := Lib.hid her
    clear her
    go_wp2_with fail
    go_ret2
    exact ⟨a7, c7, by rw [HS5.out, HER.out]; rfl, by rw [HS5.out]; exact HF7.out, HM7.out⟩
end Go.Proofs.Ytabfmnlpipbegaa
