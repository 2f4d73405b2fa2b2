/- detour.Meets by contract; nil turns. -/
import Derived.Test.YtbjdjafkpldbnaaKSf
import Derived.Test.YtbjdjafkpldbnaaDistF
namespace Go.Proofs.Ytbjdjafkpldbnaa
open Go.RowKit Mile
set_option maxRecDepth 100000
attribute [local go_sem] Oper.semAt_some
def okM (dA dB : List Int) (n : Int) (i : Nat) : Prop := 0 ≤ dAt dA i ∧ 0 ≤ dAt dB i ∧ dAt dA i + dAt dB i = n
/-- The first edge on a way as far as n, among m; -1: there is none. -/
def Mee (dA dB : List Int) (n : Int) (m : Nat) (x : Int) : Prop := (∃ i : Nat, i < m ∧ x = (i : Int) ∧ okM dA dB n i ∧ ∀ j, j < i → ¬ okM dA dB n j) ∨ (x = -1 ∧ ∀ i, i < m → ¬ okM dA dB n i)
theorem Mee.uniq {dA dB : List Int} {n : Int} {m : Nat} {x y : Int} (h : Mee dA dB n m x) (k : Mee dA dB n m y) : x = y := by
  rcases h with ⟨i, h1, h2, h3, h4⟩ | ⟨h1, h2⟩ <;> rcases k with ⟨j, k1, k2, k3, k4⟩ | ⟨k1, k2⟩
  · have a1 : ¬ i < j := fun e => k4 i e h3
    have a2 : ¬ j < i := fun e => h4 j e k3
    omega
  · exact absurd h3 (k2 i h1)
  · exact absurd k3 (h2 j k1)
  · omega
theorem Mee.low {dA dB : List Int} {n : Int} {m : Nat} {x : Int} (h : Mee dA dB n m x) : -1 ≤ x := by
  rcases h with ⟨i, _, h2, _⟩ | ⟨h1, _⟩ <;> omega
theorem Mee.neg {dA dB : List Int} {n : Int} {m : Nat} (hn : n < 0) : Mee dA dB n m (-1) := .inr ⟨rfl, fun i _ h => by unfold okM at h; omega⟩
/-- The least edge on a shortest walk; -1: there is none. -/
def Mts (G : GD) (hm : May G) (v : Int) (cl : List Bool) (ev : Int) (x : Int) : Prop :=
  (((0 ≤ v ∧ v < (G.N.length : Int)) ∧ (0 ≤ ev ∧ ev < (G.E.length : Int))) ∧ ∃ dA dB, Fix (webFrom G hm ev cl) dA ∧ Fix (webTo G hm v cl) dB ∧ Mee dA dB (dAt dB ev.toNat) G.E.length x) ∨ (¬ ((0 ≤ v ∧ v < (G.N.length : Int)) ∧ (0 ≤ ev ∧ ev < (G.E.length : Int))) ∧ x = -1)
theorem Mts.uniq {G : GD} {hm : May G} {v : Int} {cl : List Bool} {ev x y : Int} (h : Mts G hm v cl ev x) (k : Mts G hm v cl ev y) : x = y := by
  rcases h with ⟨h1, a, b, ha, hb, h3⟩ | ⟨h1, h2⟩ <;> rcases k with ⟨k1, a', b', ka, kb, k3⟩ | ⟨k1, k2⟩
  · rw [← ha.uniq ka, ← hb.uniq kb] at k3; exact h3.uniq k3
  · exact absurd h1 k1
  · exact absurd k1 h1
  · rw [h2, k2]
theorem Mts.low {G : GD} {hm : May G} {v : Int} {cl : List Bool} {ev x : Int} (h : Mts G hm v cl ev x) : -1 ≤ x := by
  rcases h with ⟨_, _, _, _, _, h3⟩ | ⟨_, h2⟩
  · exact h3.low
  · omega
def MtsP (G : GD) (hm : May G) (v : Int) (cl : List Bool) (ev : Int) (w : World) (e : Ending) (w' : World) : Prop :=
  ∃ x, Mts G hm v cl ev x ∧ e = .returned (.tuple #[.int .i64 (if x = -1 then 0 else x), .bool (decide (x ≠ -1))]) ∧ Mod (fun _ => False) w w'
def RMtsP (G : GD) (hm : May G) (v : Int) (cl : List Bool) (ev : Int) (w : World) (e : Ending) (w' : World) : Prop :=
  ∃ x, Mts G hm v cl ev x ∧ e = .returned (.int .i64 x) ∧ Mod (fun _ => False) w w'
theorem from_top (G : GD) (hm : May G) (k : Int) (cl : List Bool) {d : List Int} (hf : Fix (webFrom G hm k cl) d) : ∀ e, dAt d e ≤ 33553920 :=
  hf.top' hm.1.2.1 (fun e => decide ((e : Int) = k)) (fun e => by rw [decide_eq_true_iff]; exact Iff.rfl)
theorem to_top (G : GD) (hm : May G) (v : Int) (cl : List Bool) {d : List Int} (hf : Fix (webTo G hm v cl) d) : ∀ e, dAt d e ≤ 33553920 :=
  hf.top' hm.1.2.1 (fun e => decide ((eAt G (e : Int)).2.1 = v)) (fun e => by rw [decide_eq_true_iff]; exact Iff.rfl)
set_option maxHeartbeats 8000000 in
theorem dmeets_any (t p B C : Nat) (G : GD) (hm : May G) (w : World) (h : TO w t p B C G) (ev v : Int) (a : Option Addr) (n c : Nat) (cl : List Bool) (hn : cl.length = n) (hr : Rd w 1 (.slice a n c) n (cl.map Value.bool)) :
    Calls Try.prog 13 #[.pointer (some ⟨t, 0, none⟩), .int .i64 ev, .int .i64 v, .slice a n c] w (MtsP G hm v cl ev w) := by
  obtain ⟨iI, hiI, hzI, hsI, hbI⟩ := info_parts GR.infoI
  have hes : G.E.length ≤ 512 := hm.1.2.1
  have HFR := Lib.hid (dfrom_any t p B C G hm w h ev a n c cl hn hr)
  have HT := Lib.hid (fun (w1 : World) (m1 : Mod (fun _ => False) w w1) => dto_any t p B C G hm w1 (h.keep m1) v a n c cl hn (hr.keep m1 (fun _ _ e => e)))
  clear h hn hr
  go_enter Try.func13, Try.ntmps13
  go_wp2_with fail
  refine HFR.out.mono ?_
  rintro e w1 hp
  rcases hp with ⟨hev, x, rfl, ⟨ra, dA, rfl, hoA, hfA⟩, hM1⟩ | ⟨hev, rfl, hM1⟩
  case inr =>
    go_wp2_with fail
    refine (HT.out w1 hM1).mono ?_
    have hb : Mts G hm v cl ev (-1) := .inr ⟨fun h => hev h.2, rfl⟩
    rintro e w2 hp
    rcases hp with ⟨hv, x, rfl, ⟨rb, dB, rfl, hoB, hfB⟩, hM2⟩ | ⟨hv, rfl, hM2⟩
    · go_wp2_with fail
      go_ret2
      exact ⟨-1, hb, by simp, hM1.of2 hM2⟩
    · go_wp2_with fail
      go_ret2
      exact ⟨-1, hb, by simp, hM1.of2 hM2⟩
  case inl =>
    obtain ⟨k, rfl⟩ := Int.eq_ofNat_of_zero_le hev.1
    have hk : k < G.E.length := by omega
    have hx : (webFrom G hm (k : Int) cl).m = G.E.length := rfl
    rw [hx] at hoA ⊢
    obtain ⟨m, hm0⟩ : ∃ m, G.E.length = m := ⟨_, rfl⟩
    have hx2 : (webTo G hm v cl).m = m := hm0
    rw [hm0] at hoA hk hes ⊢
    have zm : ((m : Int) == 0) = false := beq_eq_false_iff_ne.2 (by omega)
    have zmn : (m == 0) = false := beq_eq_false_iff_ne.2 (by omega)
    have HM1 := Lib.hid hM1
    have HOA := Lib.hid hoA
    have HFA := Lib.hid hfA
    have HEV := Lib.hid hev
    have HM0 := Lib.hid hm0
    clear hM1 hoA hfA hev hx hm0
    go_wp2_with fail
    refine (HT.out w1 HM1.out).mono ?_
    rintro e w2 hp
    rcases hp with ⟨hv, x, rfl, ⟨rb, dB, rfl, hoB, hfB⟩, hM2⟩ | ⟨hv, rfl, hM2⟩
    case inr =>
      go_wp2_with fail
      go_ret2
      exact ⟨-1, .inr ⟨fun h => hv h.1, rfl⟩, by simp, HM1.out.of2 hM2⟩
    case inl =>
      rw [hx2] at hoB ⊢
      have hoA2 := Own.keep HOA.out hM2 (fun _ _ e => e)
      have hM := HM1.out.of2 hM2
      obtain ⟨nn, hnn⟩ : ∃ x, dAt dB k = x := ⟨_, rfl⟩
      have htn := hfB.low k
      rw [hnn] at htn
      have hfin : ∀ x, Mee dA dB nn m x → Mts G hm v cl (k : Int) x := fun x h => .inl ⟨⟨hv, HEV.out⟩, dA, dB, HFA.out, hfB, by rw [HM0.out]; rw [← hnn] at h; exact h⟩
      have HFIN := Lib.hid hfin
      have HM := Lib.hid hM
      have HOA2 := Lib.hid hoA2
      have HOB := Lib.hid hoB
      have htA := from_top G hm (k : Int) cl HFA.out
      have htB := to_top G hm v cl hfB
      have HTP := Lib.hid (And.intro htA (And.intro htB (And.intro HFA.out.low (And.intro hfB.low hnn))))
      clear hoA2 hM hoB hM2 hfB htA htB hfin hv hx2 hnn HOA HM1 HT HFR
      go_wp2_with fail
      go_loopw [33] (fun i wr => ∃ j : Nat, j ≤ m ∧ i = .int .i64 j ∧ w2 = wr ∧ ∀ i, i < j → ¬ okM dA dB nn i) (fun i _ => m - (intOf i).toNat)
      case atStart => exact ⟨0, by omega, rfl, rfl, fun i h => by omega⟩
      case round =>
        obtain ⟨j, hj, rfl, rfl, hno⟩ := hrel
        have HNO := Lib.hid hno
        clear hno
        by_cases hlt : j < m
        case neg =>
          obtain rfl : j = m := by omega
          have z0 : decide ((j : Int) < (j : Int)) = false := by simp
          go_wp2_with fail
          go_ret2
          exact ⟨-1, HFIN.out _ (.inr ⟨rfl, HNO.out⟩), by simp, HM.out⟩
        case pos =>
          have z0 : decide ((j : Int) < (m : Int)) = true := by simp; omega
          have hixA := fun wx => own_ix iI hiI hsI ra m j hlt wx
          have hixB := fun wx => own_ix iI hiI hsI rb m j hlt wx
          have hixE := fun wx => own_ix iI hiI hsI rb m k hk wx
          have qA := own_at HOA2.out j hlt
          have qB := own_at HOB.out j hlt
          have qE := own_at HOB.out k hk
          rw [HTP.out.2.2.2.2] at qE
          obtain ⟨ga, hga⟩ : ∃ x, dAt dA j = x := ⟨_, rfl⟩
          obtain ⟨gb, hgb⟩ : ∃ x, dAt dB j = x := ⟨_, rfl⟩
          have b1 := HTP.out.1 j
          have b2 := HTP.out.2.1 j
          have b3 := HTP.out.2.2.1 j
          have b4 := HTP.out.2.2.2.1 j
          rw [hga] at qA b1 b3
          rw [hgb] at qB b2 b4
          have hok : okM dA dB nn j ↔ (0 ≤ ga ∧ 0 ≤ gb ∧ ga + gb = nn) := by unfold okM; rw [hga, hgb]
          have HOK := Lib.hid hok
          clear hga hgb hok
          by_cases h1 : 0 ≤ ga
          · have z1 : decide (0 ≤ ga) = true := decide_eq_true h1
            by_cases h2 : 0 ≤ gb
            · have z2 : decide (0 ≤ gb) = true := decide_eq_true h2
              by_cases h3 : ga + gb = nn
              · have z3 : (ga + gb == nn) = true := beq_iff_eq.2 h3
                go_wp2_with fail
                go_ret2
                have hx1 : (j : Int) ≠ -1 := by omega
                refine ⟨(j : Int), HFIN.out _ (.inl ⟨j, hlt, rfl, HOK.out.2 ⟨h1, h2, h3⟩, HNO.out⟩), ?_, HM.out⟩
                rw [if_neg hx1, decide_eq_true hx1]
                rfl
              · have z3 : (ga + gb == nn) = false := beq_eq_false_iff_ne.2 h3
                go_wp2_with fail
                go_roundw
                case rel => exact ⟨j + 1, hlt, by go_num, (by first | rfl | trivial), fun i hi h => (Nat.lt_succ_iff_lt_or_eq.1 hi).elim (fun e => HNO.out i e h) (fun e => by rw [e] at h; exact h3 (HOK.out.1 h).2.2)⟩
                case measure => simp [intOf]; omega
            · have z2 : decide (0 ≤ gb) = false := decide_eq_false h2
              go_wp2_with fail
              go_roundw
              case rel => exact ⟨j + 1, hlt, by go_num, (by first | rfl | trivial), fun i hi h => (Nat.lt_succ_iff_lt_or_eq.1 hi).elim (fun e => HNO.out i e h) (fun e => by rw [e] at h; exact h2 (HOK.out.1 h).2.1)⟩
              case measure => simp [intOf]; omega
          · have z1 : decide (0 ≤ ga) = false := decide_eq_false h1
            go_wp2_with fail
            go_roundw
            case rel => exact ⟨j + 1, hlt, by go_num, (by first | rfl | trivial), fun i hi h => (Nat.lt_succ_iff_lt_or_eq.1 hi).elim (fun e => HNO.out i e h) (fun e => by rw [e] at h; exact h1 (HOK.out.1 h).1)⟩
            case measure => simp [intOf]; omega
theorem ddist19_nil (w : World) (ev v : Int) (x : Option Addr) (n c : Nat) : Calls Try.prog 11 #[.pointer none, .int .i64 ev, .int .i64 v, .slice x n c] w fun e w' => e = .returned (.tuple #[.int .i64 0, .bool false]) ∧ Mod (fun _ => False) w w' := by
  go_enter Try.func11, Try.ntmps11
  go_wp2_with fail
  go_ret2
  exact ⟨rfl, Mod.refl _ _⟩
end Go.Proofs.Ytbjdjafkpldbnaa
