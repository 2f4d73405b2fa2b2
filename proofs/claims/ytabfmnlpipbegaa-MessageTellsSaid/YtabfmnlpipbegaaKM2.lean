/- slices.Equal of two rows of numbers. -/
import Derived.Test.YtabfmnlpipbegaaRows
import Derived.Test.YtabfmnlpipbegaaBase2
import Derived.Deep.QuietTactic
import Derived.BigQuiet
import Derived.Lib.Hide
import Derived.Test.YtabfmnlpipbegaaKM1
import Derived.Test.YtabfmnlpipbegaaArgs
import Derived.Test.YtabfmnlpipbegaaAwake3
import Derived.Test.YtabfmnlpipbegaaGramA
namespace Go.Proofs.Ytabfmnlpipbegaa
open Go.RowKit Mile
set_option maxRecDepth 100000
theorem EqI.info3 : (Try.prog.info? 3).map (fun i => (i.zero, i.size, i.bytes)) = some (some (.int .i64 0), 1, 8) := by kernel_rfl

set_option maxHeartbeats 2000000 in
theorem eqi_any (w : World) (a : Option Addr) (n c : Nat) (xs : List Int) (hn : xs.length = n) (hr : Rd w 1 (.slice a n c) n (xs.map (Value.int .i64)))
    (b : Option Addr) (m d : Nat) (ys : List Int) (hm : ys.length = m) (hs : Rd w 1 (.slice b m d) m (ys.map (Value.int .i64))) (hb : n ≤ 1000000000) :
    Calls Try.prog 32 #[.slice a n c, .slice b m d] w fun e w' => e = .returned (.bool (decide (xs = ys))) ∧ ∃ k, w' = w.drewN k := by
  obtain ⟨i3, hi3, hz3, hs3, hb3⟩ := info_parts EqI.info3
  obtain ⟨res, hres⟩ : ∃ r, decide (xs = ys) = r := ⟨_, rfl⟩
  rw [hres]
  have HRES := Lib.hid hres
  have HN := Lib.hid hn
  have HM := Lib.hid hm
  clear hn hm hres
  by_cases hl : n = m
  · subst hl
    go_enter Try.func32, Try.ntmps32
    go_wp2_with fail
    go_loopw [13] (fun i wr => ∃ (j k : Nat), j ≤ n ∧ i = .int .i64 j ∧ wr = w.drewN k ∧ ∀ t, t < j → xs.getD t 0 = ys.getD t 0) (fun i _ => n - (intOf i).toNat)
    case atStart => exact ⟨0, 0, by omega, rfl, rfl, fun t h => by omega⟩
    case round =>
      obtain ⟨j, k, hj, rfl, hwr, hall⟩ := hrel
      have HA := Lib.hid hall
      have HW := Lib.hid hwr
      have hMk : Mod (fun _ => False) w wr := by rw [hwr]; exact Mod.drewN _ _ _
      clear hall hwr
      by_cases hlt : j < n
      · have hxl : j < xs.length := by rw [HN.out]; exact hlt
        have hyl : j < ys.length := by rw [HM.out]; exact hlt
        have hix := fun wx => run_indexS (P := Try.prog) wx 22 3 i3 1 Try.underlying22 hi3 hs3 a n c j hlt (hr.some_ (by omega))
        have hiy := fun wx => run_indexS (P := Try.prog) wx 22 3 i3 1 Try.underlying22 hi3 hs3 b n d j hlt (hs.some_ (by omega))
        have cx : wr.cell? (elemA a j 1) = some (.int .i64 xs[j]) := (hr.keepA hMk (fun _ _ e => e.elim)).elem (by simp [hxl])
        have cy : wr.cell? (elemA b j 1) = some (.int .i64 ys[j]) := (hs.keepA hMk (fun _ _ e => e.elim)).elem (by simp [hyl])
        have hx : xs.getD j 0 = xs[j] := by simp [List.getD, hxl]
        have hy : ys.getD j 0 = ys[j] := by simp [List.getD, hyl]
        obtain ⟨u, hu⟩ : ∃ u, xs[j] = u := ⟨_, rfl⟩
        obtain ⟨v, hv⟩ : ∃ v, ys[j] = v := ⟨_, rfl⟩
        rw [hu] at cx hx
        rw [hv] at cy hy
        have HX := Lib.hid hx
        have HY := Lib.hid hy
        clear hx hy hu hv
        by_cases e : u = v
        · subst e
          go_wp2_with fail
          go_quiet (fail)
          go_wp2_with fail
          go_roundw
          case rel =>
            refine ⟨j + 1, k + nq, hlt, by go_num, by rw [HW.out, World.drewN_drewN], fun t ht => ?_⟩
            by_cases e : t = j
            · subst e; rw [HX.out, HY.out]
            · exact HA.out t (by omega)
          case measure => simp [intOf]; omega
        · have g1 : (u != v) = true := by simpa using e
          have g2 : (u == v) = false := by simpa using e
          have hr0 : res = false := by
            rw [← HRES.out]
            exact decide_eq_false fun h => e (by rw [← HX.out, ← HY.out, h])
          subst hr0
          go_wp2_with fail
          go_quiet (fail)
          go_wp2_with fail
          go_ret
          exact ⟨rfl, k + nq, by rw [HW.out, World.drewN_drewN]⟩
      · obtain rfl : j = n := by omega
        have hr1 : res = true := by
          rw [← HRES.out]
          refine decide_eq_true (List.ext_getElem (by rw [HN.out, HM.out]) fun t h1 h2 => ?_)
          have := HA.out t (by rw [← HN.out]; exact h1)
          simpa [List.getD, h1, h2] using this
        subst hr1
        go_wp2_with fail
        go_ret
        exact ⟨rfl, k, HW.out⟩
  · have g1 : ((n : Int) != (m : Int)) = true := by simp; omega
    have g2 : ((n : Int) == (m : Int)) = false := by simp; omega
    have hr0 : res = false := by rw [← HRES.out]; exact decide_eq_false fun e => hl (by rw [← HN.out, ← HM.out, e])
    subst hr0
    go_enter Try.func32, Try.ntmps32
    go_wp2_with fail
    go_ret
    exact ⟨rfl, 0, rfl⟩
end Go.Proofs.Ytabfmnlpipbegaa
namespace Go.Proofs.Ytabfmnlpipbegaa
open Go.RowKit Mile
set_option maxRecDepth 100000
def sameM (x y : MsD) : Prop := x.kind = y.kind ∧ x.pos = y.pos ∧ x.dest = y.dest ∧ x.edges = y.edges ∧ x.weight = y.weight ∧ x.hc = y.hc ∧ x.he = y.he ∧ x.hf = y.hf ∧ x.hl = y.hl
set_option maxHeartbeats 16000000 in
theorem msame_any (w : World) (x y : MsD) (res : Bool) (hres : res = true ↔ sameM x y) (a : Option Addr) (n c : Nat) (hn : x.edges.length = n) (hr : Rd w 1 (.slice a n c) n (x.edges.map (Value.int .i64))) (a2 : Option Addr) (n2 c2 : Nat) (hn2 : y.edges.length = n2) (hr2 : Rd w 1 (.slice a2 n2 c2) n2 (y.edges.map (Value.int .i64))) (hb : n ≤ 100000) :
    Calls Try.prog 15 #[msgV x a n c, msgV y a2 n2 c2] w fun e w' => e = .returned (.bool res) ∧ Mod (fun _ => False) w w' := by
  obtain ⟨xk, xp, xd, xe, xw, xc, xh, xf, xl⟩ := x
  obtain ⟨yk, yp, yd, ye, yw, yc, yh, yf, yl⟩ := y
  replace hn : xe.length = n := hn
  replace hn2 : ye.length = n2 := hn2
  replace hr : Rd w 1 (.slice a n c) n (xe.map (Value.int .i64)) := hr
  replace hr2 : Rd w 1 (.slice a2 n2 c2) n2 (ye.map (Value.int .i64)) := hr2
  unfold sameM at hres
  simp only at hres
  unfold msgV
  simp only
  obtain ⟨bx, hbx⟩ : ∃ b, w.heap.size = b := ⟨_, rfl⟩
  obtain ⟨w1, hw1⟩ : ∃ W, w.alloc (.cells #[.int .i64 xk, .int .i64 xp, .int .i64 xd, .slice a n c, .int .i64 xw, .int .i64 xc, .int .i64 xh, .int .i64 xf, .int .i64 xl] 26) = W := ⟨_, rfl⟩
  obtain ⟨by_, hby⟩ : ∃ b, w1.heap.size = b := ⟨_, rfl⟩
  obtain ⟨w2, hw2⟩ : ∃ W, w1.alloc (.cells #[.int .i64 yk, .int .i64 yp, .int .i64 yd, .slice a2 n2 c2, .int .i64 yw, .int .i64 yc, .int .i64 yh, .int .i64 yf, .int .i64 yl] 26) = W := ⟨_, rfl⟩
  have hs1 := hby
  have hm1 : Mod (fun _ => False) w w1 := by rw [← hw1]; exact Mod.alloc _ _ _
  have hm2 : Mod (fun _ => False) w1 w2 := by rw [← hw2]; exact Mod.alloc _ _ _
  have hB1 : Blk w1 bx 26 [.int .i64 xk, .int .i64 xp, .int .i64 xd, .slice a n c, .int .i64 xw, .int .i64 xc, .int .i64 xh, .int .i64 xf, .int .i64 xl] := by rw [← hw1, ← hbx]; exact Blk.new _ _ [.int .i64 xk, .int .i64 xp, .int .i64 xd, .slice a n c, .int .i64 xw, .int .i64 xc, .int .i64 xh, .int .i64 xf, .int .i64 xl]
  have hB2 : Blk w2 w1.heap.size 26 [.int .i64 yk, .int .i64 yp, .int .i64 yd, .slice a2 n2 c2, .int .i64 yw, .int .i64 yc, .int .i64 yh, .int .i64 yf, .int .i64 yl] := by rw [← hw2]; exact Blk.new _ _ [.int .i64 yk, .int .i64 yp, .int .i64 yd, .slice a2 n2 c2, .int .i64 yw, .int .i64 yc, .int .i64 yh, .int .i64 yf, .int .i64 yl]
  rw [hs1] at hB2
  have hB1 := hB1.keep hm2 (fun e => e)
  have HN := Lib.hid hn
  have HN2 := Lib.hid hn2
  have HR1 := Lib.hid (hr.keep (hm1.of2 hm2) (fun _ _ e => e))
  have HR2 := Lib.hid (hr2.keep (hm1.of2 hm2) (fun _ _ e => e))
  have HB1 := Lib.hid (Ev.blk hB1)
  have HB2 := Lib.hid (Ev.blk hB2)
  have HM := Lib.hid (hm1.of2 hm2)
  have HRES := Lib.hid hres
  clear hres hn hn2 hr hr2 hm1 hm2 hB1 hB2 hs1
  go_enter Try.func15, Try.ntmps15
  go_upto_region 1 with fail
  try rw [hw1]
  try rw [hbx]
  try rw [hw2]
  try rw [hby]
  clear hw1 hbx hw2 hby
  have hb1 := HB1.out.at (Mod.refl _ _)
  have p0 := hb1.cell 0 rfl
  have p1 := hb1.cell 1 rfl
  have p2 := hb1.cell 2 rfl
  have p3 := hb1.cell 3 rfl
  have p4 := hb1.cell 4 rfl
  have p5 := hb1.cell 5 rfl
  have p6 := hb1.cell 6 rfl
  have p7 := hb1.cell 7 rfl
  have p8 := hb1.cell 8 rfl
  have l1 := hb1.lt
  have hb2 := HB2.out.at (Mod.refl _ _)
  have q0 := hb2.cell 0 rfl
  have q1 := hb2.cell 1 rfl
  have q2 := hb2.cell 2 rfl
  have q3 := hb2.cell 3 rfl
  have q4 := hb2.cell 4 rfl
  have q5 := hb2.cell 5 rfl
  have q6 := hb2.cell 6 rfl
  have q7 := hb2.cell 7 rfl
  have q8 := hb2.cell 8 rfl
  have l2 := hb2.lt
  clear hb1 hb2
  by_cases hk : xk = yk
  case neg =>
    have zk : (xk == yk) = false := by simpa using hk
    have hf : res = false := by cases res with | false => rfl | true => exact absurd (HRES.out.1 rfl).1 hk
    subst hf
    have HX := Lib.hid hk
    clear hk
    go_wp2_with fail
    go_ret
    exact ⟨rfl, HM.out⟩
  case pos =>
    subst hk
    by_cases hp : xp = yp
    case neg =>
      have zp : (xp == yp) = false := by simpa using hp
      have hf : res = false := by cases res with | false => rfl | true => exact absurd (HRES.out.1 rfl).2.1 hp
      subst hf
      have HX := Lib.hid hp
      clear hp
      go_wp2_with fail
      go_ret
      exact ⟨rfl, HM.out⟩
    case pos =>
      subst hp
      by_cases hd : xd = yd
      case neg =>
        have zd : (xd == yd) = false := by simpa using hd
        have hf : res = false := by cases res with | false => rfl | true => exact absurd (HRES.out.1 rfl).2.2.1 hd
        subst hf
        have HX := Lib.hid hd
        clear hd
        go_wp2_with fail
        go_ret
        exact ⟨rfl, HM.out⟩
      case pos =>
        subst hd
        go_wp2_with fail
        refine (eqi_any w2 a n c xe HN.out HR1.out a2 n2 c2 ye HN2.out HR2.out (by omega)).mono ?_
        rintro e w3 ⟨rfl, k, hk⟩
        have HMK := Lib.hid (show Mod (fun _ => False) w2 w3 by rw [hk]; exact Mod.drewN _ _ _)
        clear hk
        clear p0 q0 p1 q1 p2 q2 p3 q3 p4 q4 p5 q5 p6 q6 p7 q7 p8 q8 l1 l2
        have HMZ := Lib.hid (HM.out.of2 HMK.out)
        have hb1 := HB1.out.at (HMK.out)
        have p0 := hb1.cell 0 rfl
        have p1 := hb1.cell 1 rfl
        have p2 := hb1.cell 2 rfl
        have p3 := hb1.cell 3 rfl
        have p4 := hb1.cell 4 rfl
        have p5 := hb1.cell 5 rfl
        have p6 := hb1.cell 6 rfl
        have p7 := hb1.cell 7 rfl
        have p8 := hb1.cell 8 rfl
        have l1 := hb1.lt
        have hb2 := HB2.out.at (HMK.out)
        have q0 := hb2.cell 0 rfl
        have q1 := hb2.cell 1 rfl
        have q2 := hb2.cell 2 rfl
        have q3 := hb2.cell 3 rfl
        have q4 := hb2.cell 4 rfl
        have q5 := hb2.cell 5 rfl
        have q6 := hb2.cell 6 rfl
        have q7 := hb2.cell 7 rfl
        have q8 := hb2.cell 8 rfl
        have l2 := hb2.lt
        clear hb1 hb2
        by_cases he : xe = ye
        case neg =>
          rw [decide_eq_false he]
          have hf : res = false := by cases res with | false => rfl | true => exact absurd (HRES.out.1 rfl).2.2.2.1 he
          subst hf
          clear he
          go_wp2_with fail
          go_ret
          exact ⟨rfl, HMZ.out⟩
        case pos =>
          rw [decide_eq_true he]
          have HEE := Lib.hid he
          clear he
          by_cases hw : xw = yw
          case neg =>
            have zw : (xw == yw) = false := by simpa using hw
            have hf : res = false := by cases res with | false => rfl | true => exact absurd (HRES.out.1 rfl).2.2.2.2.1 hw
            subst hf
            have HX := Lib.hid hw
            clear hw
            go_wp2_with fail
            go_ret
            exact ⟨rfl, HMZ.out⟩
          case pos =>
            subst hw
            by_cases hc : xc = yc
            case neg =>
              have zc : (xc == yc) = false := by simpa using hc
              have hf : res = false := by cases res with | false => rfl | true => exact absurd (HRES.out.1 rfl).2.2.2.2.2.1 hc
              subst hf
              have HX := Lib.hid hc
              clear hc
              go_wp2_with fail
              go_ret
              exact ⟨rfl, HMZ.out⟩
            case pos =>
              subst hc
              by_cases hh : xh = yh
              case neg =>
                have zh : (xh == yh) = false := by simpa using hh
                have hf : res = false := by cases res with | false => rfl | true => exact absurd (HRES.out.1 rfl).2.2.2.2.2.2.1 hh
                subst hf
                have HX := Lib.hid hh
                clear hh
                go_wp2_with fail
                go_ret
                exact ⟨rfl, HMZ.out⟩
              case pos =>
                subst hh
                by_cases hf : xf = yf
                case neg =>
                  have zf : (xf == yf) = false := by simpa using hf
                  have hf : res = false := by cases res with | false => rfl | true => exact absurd (HRES.out.1 rfl).2.2.2.2.2.2.2.1 hf
                  subst hf
                  have HX := Lib.hid hf
                  clear hf
                  go_wp2_with fail
                  go_ret
                  exact ⟨rfl, HMZ.out⟩
                case pos =>
                  subst hf
                  by_cases hl : xl = yl
                  case neg =>
                    have zl : (xl == yl) = false := by simpa using hl
                    have hf : res = false := by cases res with | false => rfl | true => exact absurd (HRES.out.1 rfl).2.2.2.2.2.2.2.2 hl
                    subst hf
                    have HX := Lib.hid hl
                    clear hl
                    go_wp2_with fail
                    go_ret
                    exact ⟨rfl, HMZ.out⟩
                  case pos =>
                    subst hl
                    have ht : res = true := HRES.out.2 (by have := HEE.out; simp [this])
                    subst ht
                    go_wp2_with fail
                    go_ret
                    exact ⟨rfl, HMZ.out⟩
theorem Rd.nil0 {w w' : World} {v : Value} (h : Rd w 1 v 0 []) : Rd w' 1 v 0 [] := by
  obtain ⟨h0, a, c, h1, h2, h3, h4, h5⟩ := h
  exact ⟨h0, a, c, h1, h2, h3, h4, fun ad had => ⟨(h5 ad had).1, fun j u hj => by cases hj⟩⟩
set_option maxHeartbeats 16000000 in
theorem awake22_any (w : World) : Calls Try.prog 9 #[] w fun e w' => e = .returned (.bool true) ∧ Mod (fun _ => False) w w' := by
  have hE : mBytes ⟨1, 1, 258, [], 0, 0, 0, 0, 0⟩ = some [1, 0, 1, 1, 2] := rfl
  have hD : decM [1, 0, 1, 1, 2] = (⟨1, 1, 258, [], 0, 0, 0, 0, 0⟩, 0) := by have h := dec_encM hE; rw [h]; rfl
  have hZ : decM [] = (zM, 2) := by unfold decM; rw [if_neg]; intro h; exact absurd (mBytes_pos h) (by simp)
  have hG : mBytes ⟨0, 0, 0, [], 0, 0, 0, 0, 0⟩ = none := rfl
  have hK : ∃ bs, mBytes ⟨7, 0, 0, [], 0, 9, -1, 0, 0⟩ = some bs ∧ bs.length = 14 := ⟨_, rfl, rfl⟩
  obtain ⟨b7, hK, hK2⟩ := hK
  have HE := Lib.hid hE
  have HD := Lib.hid hD
  have HZ := Lib.hid hZ
  have HG := Lib.hid hG
  have HK := Lib.hid hK
  have HK2 := Lib.hid hK2
  clear hE hD hZ hG hK hK2
  have h1 := mencode_any w ⟨1, 1, 258, [], 0, 0, 0, 0, 0⟩ none 0 0 rfl (Rd.nil _ _) (by omega) (by simp)
  unfold msgV at h1
  simp only at h1
  have C1 := Lib.hid h1
  clear h1
  go_enter Try.func9, Try.ntmps9
  go_wp2_with fail
  refine C1.out.mono ?_
  clear C1
  rintro e w1 ⟨a1, c1, rfl, hF, hm1⟩
  rw [HE.out] at hF ⊢
  simp only [Option.getD_some, List.length_cons, List.length_nil, Nat.zero_add, Nat.reduceAdd, Option.isNone_some, Bool.false_eq_true, if_false] at hF ⊢
  have HRD := Lib.hid (show Rd w1 1 (.slice a1 5 c1) 5 (([1, 0, 1, 1, 2] : List Int).map (Value.int .u8)) from Rd.ofOwn hF)
  have HM1 := Lib.hid hm1
  clear hF hm1
  go_wp2_with fail
  refine (mdecode_any w1 a1 5 c1 [1, 0, 1, 1, 2] rfl HRD.out (by intro x hx; simp at hx; omega) (by omega)).mono ?_
  rintro e w2 ⟨a2, c2, rfl, hF, hm2⟩
  rw [HD.out] at hF ⊢
  unfold msgV
  simp only [List.length_nil] at hF ⊢
  have HN0 := Lib.hid (show Rd w2 1 (.slice a2 0 c2) 0 [] from Rd.ofOwn hF)
  have HM2 := Lib.hid (HM1.out.of2 hm2)
  have HRD2 := Lib.hid (HRD.out.keep hm2 (fun _ _ e => e))
  clear hF hm2
  go_upto_region 3 with fail
  obtain ⟨gb, hgb⟩ : ∃ b, w2.heap.size = b := ⟨_, rfl⟩
  obtain ⟨w3, hw3⟩ : ∃ W, w2.alloc (.cells #[.int .i64 1, .int .i64 1, .int .i64 258, .slice a2 0 c2, .int .i64 0, .int .i64 0, .int .i64 0, .int .i64 0, .int .i64 0] 26) = W := ⟨_, rfl⟩
  have hm3 : Mod (fun _ => False) w2 w3 := by rw [← hw3]; exact Mod.alloc _ _ _
  have hB3 : Blk w3 gb 26 [.int .i64 1, .int .i64 1, .int .i64 258, .slice a2 0 c2, .int .i64 0, .int .i64 0, .int .i64 0, .int .i64 0, .int .i64 0] := by rw [← hw3, ← hgb]; exact Blk.new _ _ [.int .i64 1, .int .i64 1, .int .i64 258, .slice a2 0 c2, .int .i64 0, .int .i64 0, .int .i64 0, .int .i64 0, .int .i64 0]
  rw [hw3, hgb]
  clear hw3 hgb
  have HB3 := Lib.hid hB3
  have HM3 := Lib.hid (HM2.out.of2 hm3)
  have HR3 := Lib.hid (HRD2.out.keep hm3 (fun _ _ e => e))
  clear hB3 hm3 HRD HRD2
  go_wp2_with fail
  refine (mdecode_any w3 none 0 0 [] rfl (Rd.nil _ _) (fun x hx => by cases hx) (by omega)).mono ?_
  rintro e w4 ⟨a4, c4, rfl, hF, hm4⟩
  rw [HZ.out]
  unfold msgV zM
  simp only [List.length_nil]
  have HB4 := Lib.hid (HB3.out.keep hm4 (fun e => e))
  have HM4 := Lib.hid (HM3.out.of2 hm4)
  have HR4 := Lib.hid (HR3.out.keep hm4 (fun _ _ e => e))
  clear hF hm4
  go_upto_region 4 with fail
  obtain ⟨g2, hg2⟩ : ∃ b, w4.heap.size = b := ⟨_, rfl⟩
  obtain ⟨w5, hw5⟩ : ∃ W, w4.alloc (.cells #[.int .i64 0, .int .i64 0, .int .i64 0, .slice a4 0 c4, .int .i64 0, .int .i64 0, .int .i64 0, .int .i64 0, .int .i64 0] 26) = W := ⟨_, rfl⟩
  have hm5 : Mod (fun _ => False) w4 w5 := by rw [← hw5]; exact Mod.alloc _ _ _
  rw [hw5, hg2]
  clear hw5 hg2
  have HB5 := Lib.hid (HB4.out.keep hm5 (fun e => e))
  have HM5 := Lib.hid (HM4.out.of2 hm5)
  have HR5 := Lib.hid (HR4.out.keep hm5 (fun _ _ e => e))
  clear hm5 HB3 HB4 HR3 HR4
  have h1 := mencode_any w5 ⟨0, 0, 0, [], 0, 0, 0, 0, 0⟩ none 0 0 rfl (Rd.nil _ _) (by omega) (by simp)
  unfold msgV at h1
  simp only at h1
  have C5 := Lib.hid h1
  clear h1
  go_wp2_with fail
  refine C5.out.mono ?_
  clear C5
  rintro e w6 ⟨a6, c6, rfl, hF, hm6⟩
  rw [HG.out]
  simp only [Option.getD_none, List.length_nil, Option.isNone_none, if_true]
  have HB6 := Lib.hid (HB5.out.keep hm6 (fun e => e))
  have HM6 := Lib.hid (HM5.out.of2 hm6)
  have HR6 := Lib.hid (HR5.out.keep hm6 (fun _ _ e => e))
  clear hF hm6 HB5 HR5
  have h1 := mencode_any w6 ⟨7, 0, 0, [], 0, 9, -1, 0, 0⟩ none 0 0 rfl (Rd.nil _ _) (by omega) (by simp)
  unfold msgV at h1
  simp only at h1
  have C6 := Lib.hid h1
  clear h1
  go_wp2_with fail
  refine C6.out.mono ?_
  clear C6
  rintro e w7 ⟨a7, c7, rfl, hF, hm7⟩
  rw [HK.out]
  simp only [Option.getD_some, Option.isNone_some, Bool.false_eq_true, if_false]
  rw [HK2.out]
  have HB7 := Lib.hid (HB6.out.keep hm7 (fun e => e))
  have HM7 := Lib.hid (HM6.out.of2 hm7)
  have HR7 := Lib.hid (HR6.out.keep hm7 (fun _ _ e => e))
  clear hF hm7 HB6 HR6
  have hbk := HB7.out
  have q0 := hbk.cell 0 rfl
  have q1 := hbk.cell 1 rfl
  have q2 := hbk.cell 2 rfl
  have q3 := hbk.cell 3 rfl
  have q4 := hbk.cell 4 rfl
  have q5 := hbk.cell 5 rfl
  have q6 := hbk.cell 6 rfl
  have q7 := hbk.cell 7 rfl
  have q8 := hbk.cell 8 rfl
  have lq := hbk.lt
  clear hbk
  have k1 := run_strS w7 27 9 5 Try.underlying27 Try.underlying5 Try.underlying9 HR7.out
  have k2 : strOf [1, 0, 1, 1, 2] = { data := #[1, 0, 1, 1, 2] } := rfl
  rw [k2] at k1
  clear k2
  have h1 := fun (w : World) => msame_any w ⟨1, 1, 258, [], 0, 0, 0, 0, 0⟩ ⟨1, 1, 258, [], 0, 0, 0, 0, 0⟩ true (by unfold sameM; simp) a2 0 c2 rfl (Rd.nil0 HN0.out) a2 0 c2 rfl (Rd.nil0 HN0.out) (by omega)
  unfold msgV at h1
  simp only at h1
  have C7 := Lib.hid h1
  clear h1
  have h2 := fun (w : World) => msame_any w ⟨1, 1, 258, [], 0, 0, 0, 0, 0⟩ zM false (by unfold sameM zM; simp) a2 0 c2 rfl (Rd.nil0 HN0.out) none 0 0 rfl (Rd.nil _ _) (by omega)
  unfold msgV zM at h2
  simp only at h2
  have C8 := Lib.hid h2
  clear h2
  go_wp2_with fail
  refine (C7.out _).mono ?_
  rintro e w8 ⟨rfl, hm8⟩
  have HB8 := Lib.hid (HB7.out.keep hm8 (fun e => e))
  have HM8 := Lib.hid (HM7.out.of2 hm8)
  clear hm8 q0 q1 q2 q3 q4 q5 q6 q7 q8 lq k1
  have hbk := HB8.out
  have q0 := hbk.cell 0 rfl
  have q1 := hbk.cell 1 rfl
  have q2 := hbk.cell 2 rfl
  have q3 := hbk.cell 3 rfl
  have q4 := hbk.cell 4 rfl
  have q5 := hbk.cell 5 rfl
  have q6 := hbk.cell 6 rfl
  have q7 := hbk.cell 7 rfl
  have q8 := hbk.cell 8 rfl
  have lq := hbk.lt
  clear hbk
  go_wp2_with fail
  refine (C8.out _).mono ?_
  rintro e w9 ⟨rfl, hm9⟩
  have HM9 := Lib.hid (HM8.out.of2 hm9)
  clear hm9
  go_wp2_with fail
  go_ret
  exact ⟨rfl, HM9.out⟩
end Go.Proofs.Ytabfmnlpipbegaa
namespace Go.Proofs.Ytabfmnlpipbegaa
open Go.RowKit Mile
set_option maxRecDepth 100000
abbrev HintD := Int × Int × Int × Int × Unit
def encHint : Enc HintD := encPair (encInt .i64) (encPair (encInt .i64) (encPair (encInt .i64) (encPair (encInt .i64) encUnit)))
theorem opens_hint : Opens Try.prog 24 encHint :=
  opens_struct Try.underlying24 (by kernel_rfl) (opens_cons rfl (by kernel_rfl) (opens_int Try.underlying3) (opens_cons rfl (by kernel_rfl) (opens_int Try.underlying3) (opens_cons rfl (by kernel_rfl) (opens_int Try.underlying3) (opens_cons rfl (by kernel_rfl) (opens_int Try.underlying3) (opens_nil _ _)))))
abbrev MsgD := Int × Int × Int × (Value × List Int) × Int × HintD × Unit
def encMsg : Enc MsgD := encPair (encInt .i64) (encPair (encInt .i64) (encPair (encInt .i64) (encPair (encSlice (encInt .i64)) (encPair (encInt .i64) (encPair encHint encUnit)))))
theorem opens_msg : Opens Try.prog 26 encMsg :=
  opens_struct Try.underlying26 (by kernel_rfl) (opens_cons rfl (by kernel_rfl) (opens_int Try.underlying3) (opens_cons rfl (by kernel_rfl) (opens_int Try.underlying3) (opens_cons rfl (by kernel_rfl) (opens_int Try.underlying3)
    (opens_cons rfl (by kernel_rfl) (opens_slice Try.underlying22 (by kernel_rfl) (opens_int Try.underlying3) (by decide)) (opens_cons rfl (by kernel_rfl) (opens_int Try.underlying3) (opens_cons rfl (by kernel_rfl) opens_hint (opens_nil _ _)))))))
theorem i64_wfM (n : Int) (h : (Lit.int .i64 n).wf = true) : -9223372036854775808 ≤ n ∧ n ≤ 9223372036854775807 := by
  simpa [Lit.wf, IntKind.min, IntKind.max, IntKind.signed, IntKind.bits] using h
/-- What came in reads as a message. -/
theorem msg_in {w : World} {cs : Array Value} {x : MsgD} (hcs : cs.toList = encMsg.img x) (ok : encMsg.ok w x) :
    ∃ (m : MsD) (a : Option Addr) (n c : Nat), .agg cs = msgV m a n c ∧ m.edges.length = n ∧ Rd w 1 (.slice a n c) n (m.edges.map (Value.int .i64)) ∧ -9223372036854775808 ≤ m.he ∧ m.he ≤ 9223372036854775807 := by
  obtain ⟨x1, x2, x3, ⟨v, l⟩, x5, ⟨h1, h2, h3, h4, u1⟩, u⟩ := x
  obtain ⟨_, _, _, ok4, _, ⟨_, okh, _⟩, _⟩ := ok
  have r := ok4.1
  obtain ⟨_, a, c, e1, _⟩ := r
  simp only at e1
  subst e1
  obtain ⟨hn, hr, hb⟩ := ok_ints ok4
  have hh := i64_wfM h2 okh
  exact ⟨⟨x1, x2, x3, l, x5, h1, h2, h3, h4⟩, a, l.length, c, by rw [← Array.toArray_toList (xs := cs), hcs]; rfl, rfl, hr, hh.1, hh.2⟩
theorem numsS_length {s : Nat} {l bs cs : List Int} (h : numsS (s : Int) l (some bs) = some cs) : cs.length = bs.length + s * l.length := by
  replace h : (if sizeOk (s : Int) then numsL (s : Int).toNat bs l else none) = some cs := h
  split at h
  · exact numsL_length _ _ _ _ h
  · cases h
/-- How long a message's bytes are. -/
theorem mBytes_le {m : MsD} {bs : List Int} (h : mBytes m = some bs) : bs.length ≤ 1040 := by
  unfold mBytes at h
  have k1 : ∀ {b1 : List Int}, numsS 1 [m.kind] (some []) = some b1 → b1.length = 1 := fun hh => by
    have := numsS_length (s := 1) hh; simpa using this
  split at h
  · obtain ⟨b1, e1⟩ := numsS_some h
    have l1 := k1 e1
    rw [e1] at h
    have l2 := numsS_length (s := 2) h
    simp at l2; omega
  · split at h
    · obtain ⟨b1, e1⟩ := numsS_some h
      have l1 := k1 e1
      rw [e1] at h
      have l2 := numsS_length (s := 2) h
      simp at l2; omega
    · split at h
      · split at h
        · cases h
        · rename_i hle
          obtain ⟨b4, e4⟩ := numsS_some h
          rw [e4] at h
          obtain ⟨b3, e3⟩ := numsS_some e4
          rw [e3] at e4
          obtain ⟨b1, e1⟩ := numsS_some e3
          have l1 := k1 e1
          rw [e1] at e3
          have l3 := numsS_length (s := 5) e3
          have l4 := numsS_length (s := 2) e4
          have l5 := numsS_length (s := 2) h
          simp at l3 l4 l5; omega
      · split at h
        · obtain ⟨b4, e4⟩ := numsS_some h
          rw [e4] at h
          obtain ⟨b3, e3⟩ := numsS_some e4
          rw [e3] at e4
          obtain ⟨b1, e1⟩ := numsS_some e3
          have l1 := k1 e1
          rw [e1] at e3
          have l3 := numsS_length (s := 1) e3
          have l4 := numsS_length (s := 2) e4
          have l5 := numsS_length (s := 5) h
          simp at l3 l4 l5; omega
        · split at h
          · have l1 := k1 h
            omega
          · cases h
theorem normM_len (m : MsD) : (normM m).edges.length ≤ m.edges.length := by
  unfold normM
  split
  · simp
  · split
    · simp
    · split
      · exact Nat.le_refl _
      · split <;> simp
theorem normM_he (m : MsD) (h : -9223372036854775808 ≤ m.he ∧ m.he ≤ 9223372036854775807) : -9223372036854775808 ≤ (normM m).he ∧ (normM m).he ≤ 9223372036854775807 := by
  have h0 : (-9223372036854775808 : Int) ≤ 0 ∧ (0 : Int) ≤ 9223372036854775807 := by decide
  unfold normM
  split
  · exact h0
  · split
    · exact h0
    · split
      · exact h0
      · split
        · exact h
        · exact h0
end Go.Proofs.Ytabfmnlpipbegaa
