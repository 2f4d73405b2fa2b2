/- channel's within, Check, New, by contract. -/
import Derived.Test.YtdahoecejnnjkaaSd1
import Derived.Test.YtdahoecejnnjkaaTk1
import Derived.Test.YtdahoecejnnjkaaTm2
namespace Go.Proofs.Ytdahoecejnnjkaa
open Go.RowKit Mile Go.Maps
set_option maxRecDepth 100000
theorem cwithin_is (w : World) (n a b : Int) (r : Bool) (h : (decide (a ≤ n) && decide (n ≤ b)) = r) : Calls Try.prog 25 #[.int .i64 n, .int .i64 a, .int .i64 b] w fun e w' => e = .returned (.bool r) ∧ w = w' := by
  by_cases h1 : a ≤ n
  · have z0 : decide (a ≤ n) = true := by simpa using h1
    rw [z0, Bool.true_and] at h
    clear h1
    go_enter Try.func25, Try.ntmps25
    go_wp2_with fail
    go_ret
    exact ⟨rfl, rfl⟩
  · have z0 : decide (a ≤ n) = false := by simpa using h1
    rw [z0, Bool.false_and] at h
    subst h
    clear h1
    go_enter Try.func25, Try.ntmps25
    go_wp2_with fail
    go_ret
    exact ⟨rfl, rfl⟩
def fitC (s v r b c i : Int) : Prop := 1 ≤ s ∧ s ≤ 16 ∧ 1 ≤ v ∧ v ≤ 16 ∧ 0 ≤ r ∧ r ≤ 20 ∧ 1 ≤ b ∧ b ≤ 1000 ∧ b ≤ c ∧ c ≤ 1000 ∧ 1 ≤ i ∧ i ≤ 1000
def chkC (s v r b c i : Int) : Int := if decide (1 ≤ s ∧ s ≤ 16 ∧ 1 ≤ v ∧ v ≤ 16 ∧ 0 ≤ r ∧ r ≤ 20 ∧ 1 ≤ b ∧ b ≤ 1000 ∧ b ≤ c ∧ c ≤ 1000 ∧ 1 ≤ i ∧ i ≤ 1000) = true then 0 else 1
theorem chcheck_any (w : World) (s v r b c i : Int) : Calls Try.prog 8 #[.agg #[.int .i64 s, .int .i64 v, .int .i64 r, .int .i64 b, .int .i64 c, .int .i64 i]] w fun e w' => e = .returned (.int .i64 (chkC s v r b c i)) ∧ Mod (fun _ => False) w w' := by
  obtain ⟨b0, h0⟩ : ∃ y, (decide (1 ≤ s) && decide (s ≤ 16)) = y := ⟨_, rfl⟩
  have H0 := Lib.hid h0
  obtain ⟨b1, h1⟩ : ∃ y, (decide (1 ≤ v) && decide (v ≤ 16)) = y := ⟨_, rfl⟩
  have H1 := Lib.hid h1
  obtain ⟨b2, h2⟩ : ∃ y, (decide (0 ≤ r) && decide (r ≤ 20)) = y := ⟨_, rfl⟩
  have H2 := Lib.hid h2
  obtain ⟨b3, h3⟩ : ∃ y, (decide (1 ≤ b) && decide (b ≤ 1000)) = y := ⟨_, rfl⟩
  have H3 := Lib.hid h3
  obtain ⟨b4, h4⟩ : ∃ y, (decide (b ≤ c) && decide (c ≤ 1000)) = y := ⟨_, rfl⟩
  have H4 := Lib.hid h4
  obtain ⟨b5, h5⟩ : ∃ y, (decide (1 ≤ i) && decide (i ≤ 1000)) = y := ⟨_, rfl⟩
  have H5 := Lib.hid h5
  obtain ⟨res, hres⟩ : ∃ y, chkC s v r b c i = y := ⟨_, rfl⟩
  have HRES : Hid (res = if (b0 && b1 && b2 && b3 && b4 && b5) then 0 else 1) := Lib.hid (by rw [← hres]; unfold chkC; rw [← h0, ← h1, ← h2, ← h3, ← h4, ← h5]; congr 1; simp [Bool.decide_and, Bool.and_assoc])
  rw [hres]
  clear hres h0 h1 h2 h3 h4 h5
  cases b0 with
  | false =>
    go_enter Try.func8, Try.ntmps8
    go_wp2_with fail
    refine (cwithin_is _ _ _ _ _ H0.out).mono ?_
    rintro e w' ⟨rfl, rfl⟩
    go_wp2_with fail
    go_ret
    exact ⟨by rw [HRES.out]; rfl, Mod.alloc _ _ _⟩
  | true =>
    cases b1 with
    | false =>
      go_enter Try.func8, Try.ntmps8
      go_wp2_with fail
      refine (cwithin_is _ _ _ _ _ H0.out).mono ?_
      rintro e w' ⟨rfl, rfl⟩
      go_wp2_with fail
      refine (cwithin_is _ _ _ _ _ H1.out).mono ?_
      rintro e w' ⟨rfl, rfl⟩
      go_wp2_with fail
      go_ret
      exact ⟨by rw [HRES.out]; rfl, Mod.alloc _ _ _⟩
    | true =>
      cases b2 with
      | false =>
        go_enter Try.func8, Try.ntmps8
        go_wp2_with fail
        refine (cwithin_is _ _ _ _ _ H0.out).mono ?_
        rintro e w' ⟨rfl, rfl⟩
        go_wp2_with fail
        refine (cwithin_is _ _ _ _ _ H1.out).mono ?_
        rintro e w' ⟨rfl, rfl⟩
        go_wp2_with fail
        refine (cwithin_is _ _ _ _ _ H2.out).mono ?_
        rintro e w' ⟨rfl, rfl⟩
        go_wp2_with fail
        go_ret
        exact ⟨by rw [HRES.out]; rfl, Mod.alloc _ _ _⟩
      | true =>
        cases b3 with
        | false =>
          go_enter Try.func8, Try.ntmps8
          go_wp2_with fail
          refine (cwithin_is _ _ _ _ _ H0.out).mono ?_
          rintro e w' ⟨rfl, rfl⟩
          go_wp2_with fail
          refine (cwithin_is _ _ _ _ _ H1.out).mono ?_
          rintro e w' ⟨rfl, rfl⟩
          go_wp2_with fail
          refine (cwithin_is _ _ _ _ _ H2.out).mono ?_
          rintro e w' ⟨rfl, rfl⟩
          go_wp2_with fail
          refine (cwithin_is _ _ _ _ _ H3.out).mono ?_
          rintro e w' ⟨rfl, rfl⟩
          go_wp2_with fail
          go_ret
          exact ⟨by rw [HRES.out]; rfl, Mod.alloc _ _ _⟩
        | true =>
          cases b4 with
          | false =>
            go_enter Try.func8, Try.ntmps8
            go_wp2_with fail
            refine (cwithin_is _ _ _ _ _ H0.out).mono ?_
            rintro e w' ⟨rfl, rfl⟩
            go_wp2_with fail
            refine (cwithin_is _ _ _ _ _ H1.out).mono ?_
            rintro e w' ⟨rfl, rfl⟩
            go_wp2_with fail
            refine (cwithin_is _ _ _ _ _ H2.out).mono ?_
            rintro e w' ⟨rfl, rfl⟩
            go_wp2_with fail
            refine (cwithin_is _ _ _ _ _ H3.out).mono ?_
            rintro e w' ⟨rfl, rfl⟩
            go_wp2_with fail
            refine (cwithin_is _ _ _ _ _ H4.out).mono ?_
            rintro e w' ⟨rfl, rfl⟩
            go_wp2_with fail
            go_ret
            exact ⟨by rw [HRES.out]; rfl, Mod.alloc _ _ _⟩
          | true =>
            cases b5 with
            | false =>
              go_enter Try.func8, Try.ntmps8
              go_wp2_with fail
              refine (cwithin_is _ _ _ _ _ H0.out).mono ?_
              rintro e w' ⟨rfl, rfl⟩
              go_wp2_with fail
              refine (cwithin_is _ _ _ _ _ H1.out).mono ?_
              rintro e w' ⟨rfl, rfl⟩
              go_wp2_with fail
              refine (cwithin_is _ _ _ _ _ H2.out).mono ?_
              rintro e w' ⟨rfl, rfl⟩
              go_wp2_with fail
              refine (cwithin_is _ _ _ _ _ H3.out).mono ?_
              rintro e w' ⟨rfl, rfl⟩
              go_wp2_with fail
              refine (cwithin_is _ _ _ _ _ H4.out).mono ?_
              rintro e w' ⟨rfl, rfl⟩
              go_wp2_with fail
              refine (cwithin_is _ _ _ _ _ H5.out).mono ?_
              rintro e w' ⟨rfl, rfl⟩
              go_wp2_with fail
              go_ret
              exact ⟨by rw [HRES.out]; rfl, Mod.alloc _ _ _⟩
            | true =>
              go_enter Try.func8, Try.ntmps8
              go_wp2_with fail
              refine (cwithin_is _ _ _ _ _ H0.out).mono ?_
              rintro e w' ⟨rfl, rfl⟩
              go_wp2_with fail
              refine (cwithin_is _ _ _ _ _ H1.out).mono ?_
              rintro e w' ⟨rfl, rfl⟩
              go_wp2_with fail
              refine (cwithin_is _ _ _ _ _ H2.out).mono ?_
              rintro e w' ⟨rfl, rfl⟩
              go_wp2_with fail
              refine (cwithin_is _ _ _ _ _ H3.out).mono ?_
              rintro e w' ⟨rfl, rfl⟩
              go_wp2_with fail
              refine (cwithin_is _ _ _ _ _ H4.out).mono ?_
              rintro e w' ⟨rfl, rfl⟩
              go_wp2_with fail
              refine (cwithin_is _ _ _ _ _ H5.out).mono ?_
              rintro e w' ⟨rfl, rfl⟩
              go_wp2_with fail
              go_ret
              exact ⟨by rw [HRES.out]; rfl, Mod.alloc _ _ _⟩
/-- A Channel as New makes it: its own Sender, its own Taker. -/
structure CNew (w w' : World) (p sp tp kp kr W B M R : Nat) (conn : Int) : Prop where
  blk : Blk w' p 63 [.pointer (some ⟨sp, 0, none⟩), .pointer (some ⟨kp, 0, none⟩), .int .i64 conn, .slice none 0 0]
  sd : SD w' sp tp none W 0 none 0 0 false B M R [] []
  tk : TK w' kp kr W 0 (fun _ => none)
  lo : w.heap.size ≤ p ∧ w.heap.size ≤ sp ∧ w.heap.size ≤ tp ∧ w.heap.size ≤ kp ∧ w.heap.size ≤ kr
  ap : sp ≠ kp ∧ sp ≠ kr ∧ tp ≠ kp ∧ tp ≠ kr ∧ p ≠ sp ∧ p ≠ tp ∧ p ≠ kp ∧ p ≠ kr
  md : Mod (fun _ => False) w w'
theorem chnew_no (w : World) (s v r b c i conn : Int) (h : ¬ (fitC s v r b c i ∧ 1 ≤ conn ∧ conn ≤ 2147483648)) : Calls Try.prog 10 #[.agg #[.int .i64 s, .int .i64 v, .int .i64 r, .int .i64 b, .int .i64 c, .int .i64 i], .int .i64 conn] w fun e w' => e = .returned (.tuple #[.pointer none, .int .i64 1]) ∧ Mod (fun _ => False) w w' := by
  by_cases hf : fitC s v r b c i
  · have hc : chkC s v r b c i = 0 := by unfold chkC; rw [decide_eq_true (by unfold fitC at hf; exact hf)]; rfl
    have H1 : Hid ((decide (1 ≤ conn) && decide (conn ≤ 2147483648)) = false) := Lib.hid (by by_cases h1 : 1 ≤ conn <;> simp [h1]; have : ¬ conn ≤ 2147483648 := fun x => h ⟨hf, h1, x⟩; omega)
    have HC := Lib.hid (chcheck_any (w.alloc (.cells #[.int .i64 s, .int .i64 v, .int .i64 r, .int .i64 b, .int .i64 c, .int .i64 i] 23)) s v r b c i)
    rw [hc] at HC
    clear h hf hc
    go_enter Try.func10, Try.ntmps10
    go_wp2_with fail
    refine HC.out.mono ?_
    rintro e w1 ⟨rfl, hm⟩
    have HM := Lib.hid hm
    clear hm
    go_wp2_with fail
    refine (cwithin_is _ _ _ _ _ H1.out).mono ?_
    rintro e w' ⟨rfl, rfl⟩
    go_wp2_with fail
    go_ret2
    exact ⟨rfl, (Mod.alloc _ _ _).of2 HM.out⟩
  · have hc : chkC s v r b c i = 1 := by unfold chkC; rw [decide_eq_false (by unfold fitC at hf; exact hf)]; rfl
    have HC := Lib.hid (chcheck_any (w.alloc (.cells #[.int .i64 s, .int .i64 v, .int .i64 r, .int .i64 b, .int .i64 c, .int .i64 i] 23)) s v r b c i)
    rw [hc] at HC
    clear h hf hc
    go_enter Try.func10, Try.ntmps10
    go_wp2_with fail
    refine HC.out.mono ?_
    rintro e w1 ⟨rfl, hm⟩
    have HM := Lib.hid hm
    clear hm
    go_wp2_with fail
    go_ret2
    exact ⟨rfl, (Mod.alloc _ _ _).of2 HM.out⟩

set_option maxHeartbeats 4000000 in
theorem chnew_any (w : World) (s i conn : Int) (W R B M : Nat) (h : fitC s (W : Int) (R : Int) (B : Int) (M : Int) i) (hn : 1 ≤ conn ∧ conn ≤ 2147483648) : Calls Try.prog 10 #[.agg #[.int .i64 s, .int .i64 (W : Int), .int .i64 (R : Int), .int .i64 (B : Int), .int .i64 (M : Int), .int .i64 i], .int .i64 conn] w fun e w' => ∃ p sp tp kp kr, e = .returned (.tuple #[.pointer (some ⟨p, 0, none⟩), .int .i64 0]) ∧ CNew w w' p sp tp kp kr W B M R conn := by
  have hc : chkC s (W : Int) (R : Int) (B : Int) (M : Int) i = 0 := by unfold chkC; rw [decide_eq_true (by unfold fitC at h; exact h)]; rfl
  have H1 : Hid ((decide (1 ≤ conn) && decide (conn ≤ 2147483648)) = true) := Lib.hid (by simp; omega)
  obtain ⟨g, hg⟩ : ∃ y, w.heap.size = y := ⟨_, rfl⟩
  obtain ⟨wA, hwA⟩ : ∃ y, w.alloc (.cells #[.int .i64 s, .int .i64 (W : Int), .int .i64 (R : Int), .int .i64 (B : Int), .int .i64 (M : Int), .int .i64 i] 23) = y := ⟨_, rfl⟩
  have hgA : Blk wA g 23 [.int .i64 s, .int .i64 (W : Int), .int .i64 (R : Int), .int .i64 (B : Int), .int .i64 (M : Int), .int .i64 i] := by rw [← hwA, ← hg]; exact Blk.new w 23 [.int .i64 s, .int .i64 (W : Int), .int .i64 (R : Int), .int .i64 (B : Int), .int .i64 (M : Int), .int .i64 i]
  have HMA : Hid (Mod (fun _ => False) w wA) := Lib.hid (by rw [← hwA]; exact Mod.alloc _ _ _)
  have HC := Lib.hid (chcheck_any wA s (W : Int) (R : Int) (B : Int) (M : Int) i)
  rw [hc] at HC
  have HF := Lib.hid h
  have HG := Lib.hid hg
  have hW1 : 1 ≤ W := by have := h; unfold fitC at this; omega
  have hW2 : W ≤ 16 := by have := h; unfold fitC at this; omega
  clear h hc hn
  go_enter Try.func10, Try.ntmps10
  go_upto_region 1 with fail
  (try rw [hwA])
  (try rw [hg])
  have q0 := hgA.cell 0 rfl
  have q1 := hgA.cell 1 rfl
  have q2 := hgA.cell 2 rfl
  have q3 := hgA.cell 3 rfl
  have q4 := hgA.cell 4 rfl
  have q5 := hgA.cell 5 rfl
  have HGA := Lib.hid hgA
  clear hwA hg hgA
  go_wp2_with fail
  refine HC.out.mono ?_
  rintro e w1 ⟨rfl, hm⟩
  have HM1 := Lib.hid (HMA.out.of2 hm)
  have hg1 := HGA.out.keep hm (fun e => e)
  have q1 := hg1.cell 1 rfl
  have q2 := hg1.cell 2 rfl
  have q3 := hg1.cell 3 rfl
  have q4 := hg1.cell 4 rfl
  have HG1 := Lib.hid hg1
  clear hm hg1 HMA HGA HC
  go_wp2_with fail
  refine (cwithin_is _ _ _ _ _ H1.out).mono ?_
  rintro e w' ⟨rfl, rfl⟩
  go_wp2_with fail
  refine (tmnew_any w1 B M R (by have := HF.out; unfold fitC at this; omega) (by have := HF.out; unfold fitC at this; omega) (by have := HF.out; unfold fitC at this; omega) (by have := HF.out; unfold fitC at this; omega)).mono ?_
  rintro e w2 ⟨tp, rfl, ht, htp, hm⟩
  have HT2 := Lib.hid ht
  have HTP := Lib.hid htp
  have HM2 := Lib.hid (HM1.out.of2 hm)
  have hg2 := HG1.out.keep hm (fun e => e)
  have q1 := hg2.cell 1 rfl
  have HG2 := Lib.hid hg2
  clear hm hg2 ht htp HG1
  go_wp2_with fail
  refine (sdnew_any w2 W tp none B M R [] HT2.out hW1 hW2).mono ?_
  rintro e w3 ⟨sp, rfl, hs, hsp, hm⟩
  have HS3 := Lib.hid hs
  have HSP := Lib.hid hsp
  have HM3 := Lib.hid (HM2.out.of2 hm)
  have hg3 := HG2.out.keep hm (fun e => e)
  have q1 := hg3.cell 1 rfl
  have HTL := Lib.hid HT2.out.blk.lt
  clear hm hg3 hs hsp HG2 HT2
  go_wp2_with fail
  refine (tknew_any w3 W hW1 hW2).mono ?_
  rintro e w4 ⟨kp, kr, rfl, hk, hkp, hkr, hm⟩
  have HS4 := Lib.hid (HS3.out.later hm)
  have HK4 := Lib.hid hk
  have HKP := Lib.hid hkp
  have HKR := Lib.hid hkr
  have HM4 := Lib.hid (HM3.out.of2 hm)
  have HSL := Lib.hid HS3.out.blk.lt
  have HZ2 := Lib.hid HM2.out.size
  have HZ3 := Lib.hid HM3.out.size
  have HZ1 := Lib.hid HM1.out.size
  have HS3T := Lib.hid HS3.out.tm.blk.lt
  clear hm hk hkp hkr HS3
  go_wp2_with fail
  go_ret2
  have ha : Mod (fun _ => False) w4 (w4.alloc (.cells #[.pointer (some ⟨sp, 0, none⟩), .pointer (some ⟨kp, 0, none⟩), .int .i64 conn, .slice none 0 0] 63)) := Mod.alloc _ _ _
  have hz4 := HM4.out.size
  have h1 := HTP.out
  have h2 := HSP.out
  have h3 := HKP.out
  have h4 := HKR.out
  have h5 := HTL.out
  have h6 := HSL.out
  have h7 := HS4.out.blk.lt
  have h8 := HS4.out.tm.blk.lt
  have h9 := HK4.out.blk.lt
  have h10 := HZ1.out
  have h11 := HZ2.out
  have h12 := HZ3.out
  have h13 := HS3T.out
  have hkl : kr < w4.heap.size := by obtain ⟨cs, hcs, _⟩ := HK4.out.row; exact hcs.lt
  exact ⟨w4.heap.size, sp, tp, kp, kr, rfl, ⟨Blk.new w4 63 [.pointer (some ⟨sp, 0, none⟩), .pointer (some ⟨kp, 0, none⟩), .int .i64 conn, .slice none 0 0], HS4.out.later ha, HK4.out.keep ha, ⟨by omega, by omega, by omega, by omega, by omega⟩, ⟨by omega, by omega, by omega, by omega, by omega, by omega, by omega, by omega⟩, HM4.out.of2 ha⟩⟩

end Go.Proofs.Ytdahoecejnnjkaa
