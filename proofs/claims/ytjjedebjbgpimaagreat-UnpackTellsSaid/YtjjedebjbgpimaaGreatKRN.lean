/- The document's own net: mayArc, Find, by contract. -/
import Derived.Test.YtjjedebjbgpimaaGreatKN9
import Derived.Deep.QuietTactic
import Derived.BigQuiet
namespace Go.Proofs.YtjjedebjbgpimaaGreat
open Go.RowKit Mile
set_option maxRecDepth 100000
theorem rnw_any (n a b : Int) (w : World) : Calls Tryz.prog 60 #[.int .i64 n, .int .i64 a, .int .i64 b] w fun e w' => e = .returned (.bool (decide (a ≤ n ∧ n ≤ b))) ∧ w = w' := by
 by_cases h1 : a ≤ n <;> by_cases h2 : n ≤ b <;>
 ·
  go_enter Tryz.func60, Tryz.ntmps60
  go_wp2
  go_ret
  exact ⟨by simp [h1, h2], rfl⟩
theorem rnw_q {n a b : Int} {r : Bool} (h : decide (a ≤ n ∧ n ≤ b) = r) (w : World) (k : Nat) : Calls Tryz.prog 60 #[.int .i64 n, .int .i64 a, .int .i64 b] (w.drewN k) fun e w' => e = .returned (.bool r) ∧ w' = w.drewN k :=
 (rnw_any n a b _).mono fun _ _ hh => ⟨by rw [hh.1, h], hh.2.symm⟩
def RN (w : World) (q n : Nat) (L : List Ar) : Prop := ∃ a c, Blk w q 37 [.int .i64 (n : Int), .slice a L.length c] ∧ Rd w 4 (.slice a L.length c) L.length (L.flatMap c4) ∧ ∀ k, (Value.slice a 0 0).ownBlock = some k → k ≠ q
theorem RN.later {w w' : World} {q n : Nat} {L : List Ar} (h : RN w q n L) (hm : Mod (fun _ => False) w w') : RN w' q n L := by
 obtain ⟨a, c, hb, hr, hk⟩ := h
 exact ⟨a, c, hb.keep hm (fun e => e), hr.keep hm (fun _ _ e => e), hk⟩
def RNG (w : World) (q n : Nat) (L : List Ar) (G : Nat → Prop) : Prop := ∃ a c, Blk w q 37 [.int .i64 (n : Int), .slice a L.length c] ∧ Rd w 4 (.slice a L.length c) L.length (L.flatMap c4) ∧ ∀ k, (Value.slice a 0 0).ownBlock = some k → k ≠ q ∧ G k
theorem RNG.rn {w : World} {q n : Nat} {L : List Ar} {G : Nat → Prop} (h : RNG w q n L G) : RN w q n L := by
 obtain ⟨a, c, hb, hr, hk⟩ := h
 exact ⟨a, c, hb, hr, fun k e => (hk k e).1⟩
theorem RNG.mono {w : World} {q n : Nat} {L : List Ar} {G H : Nat → Prop} (h : RNG w q n L G) (hh : ∀ k, G k → H k) : RNG w q n L H := by
 obtain ⟨a, c, hb, hr, hk⟩ := h
 exact ⟨a, c, hb, hr, fun k e => ⟨(hk k e).1, hh k (hk k e).2⟩⟩
theorem RNG.keep {w w' : World} {q n : Nat} {L : List Ar} {G M : Nat → Prop} (h : RNG w q n L G) (hm : Mod M w w') (hq : ¬ M q) (hg : ∀ k, G k → ¬ M k) : RNG w' q n L G := by
 obtain ⟨a, c, hb, hr, hk⟩ := h
 exact ⟨a, c, hb.keep hm hq, hr.keep hm (fun k e => hg k (hk k (by rw [← e]; exact own_slice _ _ _ _ _)).2), hk⟩
theorem RNG.later {w w' : World} {q n : Nat} {L : List Ar} {G : Nat → Prop} (h : RNG w q n L G) (hm : Mod (fun _ => False) w w') : RNG w' q n L G := h.keep hm (fun e => e) (fun _ _ e => e)
theorem RNG.lt {w : World} {q n : Nat} {L : List Ar} {G : Nat → Prop} (h : RNG w q n L G) : q < w.heap.size := by
 obtain ⟨a, c, hb, _⟩ := h
 exact hb.lt
theorem Ev.rn {w : World} {q n : Nat} {L : List Ar} (h : RN w q n L) : Ev (fun w' => RN w' q n L) w := fun _ m => h.later m

def posN (L : List Ar) (a : Ar) : Nat := (ltN L a).length
def isN (L : List Ar) (a : Ar) : Bool := decide (eqN L a ≠ [])
theorem posN_le (L : List Ar) (a : Ar) : posN L a ≤ L.length := List.length_filter_le _ _
theorem filter_split {α : Type} (p : α → Bool) (L : List α) (i : Nat) (h1 : ∀ k (h : k < L.length), k < i → p L[k] = true) (h2 : ∀ k (h : k < L.length), i ≤ k → p L[k] = false) : L.filter p = L.take i := by
 have e : L.filter p = (L.take i ++ L.drop i).filter p := by rw [List.take_append_drop]
 rw [e, List.filter_append, List.filter_eq_self.2 (fun b hb => ?_), List.filter_eq_nil_iff.2 (fun b hb => ?_), List.append_nil]
 ·
  obtain ⟨k, hk, rfl⟩ := List.getElem_of_mem hb
  rw [List.getElem_drop]
  rw [List.length_drop] at hk
  rw [h2 (i + k) (by omega) (by omega)]; simp
 ·
  obtain ⟨k, hk, rfl⟩ := List.getElem_of_mem hb
  rw [List.getElem_take]
  rw [List.length_take] at hk
  exact h1 k (by omega) (by omega)
theorem posN_of {L : List Ar} {a : Ar} {i : Nat} (hi : i ≤ L.length) (h1 : ∀ k (h : k < L.length), k < i → keyLt L[k] a) (h2 : ∀ k (h : k < L.length), i ≤ k → ¬ keyLt L[k] a) : posN L a = i := by
 unfold posN ltN
 rw [filter_split _ L i (fun k h hk => decide_eq_true (h1 k h hk)) (fun k h hk => decide_eq_false (h2 k h hk)), List.length_take]
 omega
theorem isN_of {L : List Ar} (hs : SortN L) {a : Ar} {i : Nat} (hi : i ≤ L.length) (h1 : ∀ k (h : k < L.length), k < i → keyLt L[k] a) (h2 : ∀ k (h : k < L.length), i ≤ k → ¬ keyLt L[k] a) (b : Bool) (hb : ∀ h : i < L.length, b = decide (L[i].f = a.f ∧ L[i].t = a.t)) (hn : ¬ i < L.length → b = false) : isN L a = b := by
 by_cases hl : i < L.length
 ·
  rw [hb hl]
  unfold isN
  refine decide_eq_decide.2 ⟨fun h => ?_, fun h e => ?_⟩
  ·
   obtain ⟨c, hc⟩ := List.exists_mem_of_ne_nil _ h
   unfold eqN at hc
   rw [List.mem_filter] at hc
   have hce := of_decide_eq_true hc.2
   obtain ⟨k, hk, rfl⟩ := List.getElem_of_mem hc.1
   rcases Nat.lt_trichotomy k i with g | g | g
   ·
    have := h1 k hk g; unfold keyLt at this; omega
   ·
    subst g; exact hce
   ·
    have g1 := List.pairwise_iff_getElem.1 hs i k hl hk g
    have g2 := h2 i hl (Nat.le_refl _)
    unfold keyLt at g1 g2; omega
  ·
   have : L[i] ∈ eqN L a := by unfold eqN; rw [List.mem_filter]; exact ⟨List.getElem_mem hl, decide_eq_true h⟩
   rw [e] at this; cases this
 ·
  rw [hn hl]
  unfold isN
  refine decide_eq_false (fun h => h ?_)
  unfold eqN
  refine List.filter_eq_nil_iff.2 fun c hc => ?_
  obtain ⟨k, hk, rfl⟩ := List.getElem_of_mem hc
  have := h1 k hk (by omega); unfold keyLt at this; simp; omega
set_option maxHeartbeats 8000000 in
theorem rn_find {w : World} {q n : Nat} {L : List Ar} (h : RN w q n L) (hs : SortN L) (hb : L.length ≤ 100000) (f t : Int) : Calls Tryz.prog 37 #[.pointer (some ⟨q, 0, none⟩), .int .i64 f, .int .i64 t] w fun e w' => e = .returned (.tuple #[.int .i64 (posN L ⟨f, t, 0, 0⟩ : Int), .bool (isN L ⟨f, t, 0, 0⟩)]) ∧ Mod (fun _ => False) w w' := by
 obtain ⟨a, c, hbk, hr, _⟩ := h
 obtain ⟨ln, hln⟩ : ∃ x, L.length = x := ⟨_, rfl⟩
 rw [hln] at hbk hr hb
 obtain ⟨iA, hiA, hzA, hsA, hbA⟩ := info_parts Nt.infoA
 have HIX := Lib.hid (fun (k : Nat) (hk : k < ln) wx => run_indexS (P := Tryz.prog) wx 34 50 iA 4 Tryz.underlying34 hiA hsA a ln c k hk (hr.some_ (by omega)))
 have HBK := Lib.hid hbk
 have HR := Lib.hid hr
 have HLN := Lib.hid hln
 have HS := Lib.hid hs
 have q1 := hbk.cell 1 rfl
 clear hbk hr hln hs
 go_enter Tryz.func37, Tryz.ntmps37
 go_upto_region 1 with fail
 go_quiet (fail)
 obtain ⟨w1, hw1⟩ : ∃ y, World.drewN w nq = y := ⟨_, rfl⟩
 have hm1 : Mod (fun _ => False) w w1 := by rw [← hw1]; exact Mod.drewN _ _ _
 (try rw [hw1])
 have HM1 := Lib.hid hm1
 clear hw1 hm1 q1
 go_wp2_with fail
 go_loopw [8, 9] (fun lv hv wr => ∃ lo hi : Nat, lv = .int .i64 (lo : Int) ∧ hv = .int .i64 (hi : Int) ∧ lo ≤ hi ∧ hi ≤ ln ∧ (∀ k (h : k < L.length), k < lo → keyLt L[k] ⟨f, t, 0, 0⟩) ∧ (∀ k (h : k < L.length), hi ≤ k → ¬ keyLt L[k] ⟨f, t, 0, 0⟩) ∧ Mod (fun _ => False) w wr) (fun lv hv _ => (intOf hv).toNat - (intOf lv).toNat)
 case atStart => exact ⟨0, ln, rfl, rfl, Nat.zero_le _, Nat.le_refl _, fun k h hk => absurd hk (Nat.not_lt_zero _), fun k h hk => by rw [HLN.out] at h; omega, HM1.out⟩
 case round =>
  obtain ⟨lo, hi, rfl, rfl, hlh, hhl, h1, h2, hm⟩ := hrel
  obtain ⟨w2, hw2⟩ : ∃ x : World, x = wr := ⟨_, rfl⟩
  subst hw2
  have hb2 := HBK.out.keep hm (fun e => e)
  have q1 := hb2.cell 1 rfl
  have hr2 := HR.out.keep hm (fun _ _ e => e)
  have HR2 := Lib.hid hr2
  have HM2 := Lib.hid hm
  have H1 := Lib.hid h1
  have H2 := Lib.hid h2
  clear hb2 hr2 hm h1 h2
  by_cases hc : lo < hi
  case pos =>
   have z0 : decide ((lo : Int) < (hi : Int)) = true := by simp; omega
   obtain ⟨md, hmd⟩ : ∃ x, (lo + hi) / 2 = x := ⟨_, rfl⟩
   have hma : lo ≤ md ∧ md < hi := by omega
   have hw3 : IntKind.i64.wrap ((lo : Int) + (hi : Int)) = (lo : Int) + (hi : Int) := IntWalk.i64_in _ (by omega)
   have hw4 : IntKind.i64.wrap (((lo : Int) + (hi : Int)).tdiv 2) = (md : Int) := by
    have : ((lo : Int) + (hi : Int)).tdiv 2 = (md : Int) := by rw [Int.tdiv_eq_ediv_of_nonneg (by omega)]; omega
    rw [this]; exact IntWalk.i64_in _ (by omega)
   have hw5 : IntKind.i64.wrap ((md : Int) + 1) = ((md + 1 : Nat) : Int) := by rw [IntWalk.i64_in _ (by omega)]; omega
   have hmR : md < L.length := by rw [HLN.out]; omega
   obtain ⟨eb, eo, hpe, e0, e1, e2, e3⟩ := rd4 HR2.out md hmR
   obtain ⟨b, hbb⟩ : ∃ b, L[md] = b := ⟨_, rfl⟩
   rw [hbb] at e0 e1
   have hix := HIX.out md (by omega)
   rw [hpe] at hix
   obtain ⟨bf, hbf⟩ : ∃ x, b.f = x := ⟨_, rfl⟩
   obtain ⟨bt, hbt⟩ : ∃ x, b.t = x := ⟨_, rfl⟩
   rw [hbf] at e0
   rw [hbt] at e1
   have hup : keyLt b ⟨f, t, 0, 0⟩ → ∀ k (h : k < L.length), k < md + 1 → keyLt L[k] ⟨f, t, 0, 0⟩ := fun hk k h hkm => by
    rcases Nat.lt_or_ge k md with g | g
    ·
     have g1 := List.pairwise_iff_getElem.1 HS.out k md h hmR g
     rw [hbb] at g1
     exact g1.trans hk
    ·
     have : k = md := by omega
     subst this; rw [hbb]; exact hk
   have hdn : ¬ keyLt b ⟨f, t, 0, 0⟩ → ∀ k (h : k < L.length), md ≤ k → ¬ keyLt L[k] ⟨f, t, 0, 0⟩ := fun hk k h hkm hc => by
    rcases Nat.lt_or_ge md k with g | g
    ·
     have g1 := List.pairwise_iff_getElem.1 HS.out md k hmR h g
     rw [hbb] at g1
     exact hk (g1.trans hc)
    ·
     have : k = md := by omega
     subst this; rw [hbb] at hc; exact hk hc
   have hkl : keyLt b ⟨f, t, 0, 0⟩ ↔ bf < f ∨ (bf = f ∧ bt < t) := by unfold keyLt; rw [← hbf, ← hbt]
   have HUP := Lib.hid hup
   have HDN := Lib.hid hdn
   have HKL := Lib.hid hkl
   have HW5 := Lib.hid hw5
   clear hup hdn hkl hbf hbt hbb hpe e2 e3 hmR
   by_cases c1 : bf < f
   ·
    have x0 : decide (bf < f) = true := decide_eq_true c1
    have HU := Lib.hid (HUP.out (HKL.out.2 (.inl c1)))
    clear c1 hmd
    go_wp2_with fail
    go_roundw
    case rel => exact ⟨md + 1, hi, rfl, rfl, by omega, hhl, HU.out, H2.out, HM2.out⟩
    case measure => simp [intOf]; omega
   ·
    have x0 : decide (bf < f) = false := decide_eq_false c1
    by_cases c2 : bf = f
    ·
     have x1 : (bf == f) = true := by simpa using c2
     by_cases c3 : bt < t
     ·
      have x2 : decide (bt < t) = true := decide_eq_true c3
      have HU := Lib.hid (HUP.out (HKL.out.2 (.inr ⟨c2, c3⟩)))
      clear c1 c2 c3 hmd
      go_wp2_with fail
      go_roundw
      case rel => exact ⟨md + 1, hi, rfl, rfl, by omega, hhl, HU.out, H2.out, HM2.out⟩
      case measure => simp [intOf]; omega
     ·
      have x2 : decide (bt < t) = false := decide_eq_false c3
      have HU := Lib.hid (HDN.out (fun h => by have := HKL.out.1 h; omega))
      clear c1 c2 c3 hmd
      go_wp2_with fail
      go_roundw
      case rel => exact ⟨lo, md, rfl, rfl, by omega, by omega, H1.out, HU.out, HM2.out⟩
      case measure => simp [intOf]; omega
    ·
     have x1 : (bf == f) = false := by simpa using c2
     have HU := Lib.hid (HDN.out (fun h => by have := HKL.out.1 h; omega))
     clear c1 c2 hmd
     go_wp2_with fail
     go_roundw
     case rel => exact ⟨lo, md, rfl, rfl, by omega, by omega, H1.out, HU.out, HM2.out⟩
     case measure => simp [intOf]; omega
  case neg =>
   obtain rfl : lo = hi := by omega
   have z0 : decide ((lo : Int) < (lo : Int)) = false := by simp
   have hpo := posN_of (a := ⟨f, t, 0, 0⟩) (by rw [HLN.out]; exact hhl) H1.out H2.out
   by_cases hl : lo < ln
   ·
    have z1 : decide ((lo : Int) < (ln : Int)) = true := by simp; omega
    have hmR : lo < L.length := by rw [HLN.out]; omega
    obtain ⟨eb, eo, hpe, e0, e1, e2, e3⟩ := rd4 HR2.out lo hmR
    obtain ⟨bf, hbf⟩ : ∃ x, L[lo].f = x := ⟨_, rfl⟩
    obtain ⟨bt, hbt⟩ : ∃ x, L[lo].t = x := ⟨_, rfl⟩
    have his := isN_of HS.out (a := ⟨f, t, 0, 0⟩) (by rw [HLN.out]; exact hhl) H1.out H2.out (bf == f && bt == t) (fun _ => by rw [hbf, hbt, Bool.eq_iff_iff]; simp) (fun h => absurd hmR h)
    have HPO := Lib.hid hpo
    have HIS := Lib.hid his
    rw [hbf] at e0
    rw [hbt] at e1
    have hix := HIX.out lo hl
    rw [hpe] at hix
    clear hpo his hbf hbt hpe e2 e3 hmR
    by_cases c1 : bf = f
    ·
     have x1 : (bf == f) = true := by simpa using c1
     obtain ⟨r, hr⟩ : ∃ r, (bt == t) = r := ⟨_, rfl⟩
     have X1 := Lib.hid x1
     have HRR := Lib.hid hr
     clear c1
     go_upto_region 7 with fail
     go_quiet (fail)
     go_wp2_with fail
     go_ret2
     exact ⟨by rw [HPO.out, HIS.out, X1.out, HRR.out]; rfl, HM2.out.of2 (Mod.drewN _ _ _)⟩
    ·
     have x1 : (bf == f) = false := by simpa using c1
     have X1 := Lib.hid x1
     clear c1
     go_upto_region 7 with fail
     go_quiet (fail)
     go_wp2_with fail
     go_ret2
     exact ⟨by rw [HPO.out, HIS.out, X1.out]; rfl, HM2.out.of2 (Mod.drewN _ _ _)⟩
   ·
    have z1 : decide ((lo : Int) < (ln : Int)) = false := by simp; omega
    have his := isN_of HS.out (a := ⟨f, t, 0, 0⟩) (by rw [HLN.out]; exact hhl) H1.out H2.out false (fun h => by rw [HLN.out] at h; omega) (fun _ => rfl)
    have HPO := Lib.hid hpo
    have HIS := Lib.hid his
    clear hpo his
    go_upto_region 7 with fail
    go_quiet (fail)
    go_wp2_with fail
    go_ret2
    exact ⟨by rw [HPO.out, HIS.out]; rfl, HM2.out.of2 (Mod.drewN _ _ _)⟩
end Go.Proofs.YtjjedebjbgpimaaGreat
namespace Go.Proofs.YtjjedebjbgpimaaGreat
open Go.RowKit Mile
set_option maxRecDepth 100000
set_option maxHeartbeats 8000000 in
theorem rn_may {w : World} {q n : Nat} {s : Value} (h : Blk w q 37 [.int .i64 (n : Int), s]) (hn : n ≤ 512) (f t v m : Int) (r : Bool) (hr : decide (mayA n ⟨f, t, v, m⟩) = r) : Calls Tryz.prog 87 #[.pointer (some ⟨q, 0, none⟩), .agg #[.int .i64 f, .int .i64 t, .int .i64 v, .int .i64 m]] w fun e w' => e = .returned (.bool r) ∧ Mod (fun _ => False) w w' := by
 obtain ⟨g, hg⟩ : ∃ y, w.heap.size = y := ⟨_, rfl⟩
 obtain ⟨wA, hwA⟩ : ∃ y, w.alloc (.cells #[.int .i64 f, .int .i64 t, .int .i64 v, .int .i64 m] 50) = y := ⟨_, rfl⟩
 have hgA : Blk wA g 50 [.int .i64 f, .int .i64 t, .int .i64 v, .int .i64 m] := by rw [← hwA, ← hg]; exact Blk.new w 50 [.int .i64 f, .int .i64 t, .int .i64 v, .int .i64 m]
 have hmA : Mod (fun _ => False) w wA := by rw [← hwA]; exact Mod.alloc _ _ _
 have hA := h.keep hmA (fun e => e)
 have g0 := hgA.cell 0 rfl
 have g1 := hgA.cell 1 rfl
 have g2 := hgA.cell 2 rfl
 have g3 := hgA.cell 3 rfl
 have q0 := hA.cell 0 rfl
 have HMA := Lib.hid hmA
 have hwr : IntKind.i64.wrap ((n : Int) - 1) = (n : Int) - 1 := IntWalk.i64_in _ (by omega)
 have hmay : decide (mayA n ⟨f, t, v, m⟩) = decide (0 ≤ f ∧ f < (n : Int) ∧ 0 ≤ t ∧ t < (n : Int) ∧ f ≠ t ∧ 1 ≤ v ∧ v ≤ 1099511627776 ∧ (m = -1 ∨ (0 ≤ m ∧ m < (n : Int) ∧ m ≠ f ∧ m ≠ t))) := rfl
 rw [hmay] at hr
 clear h hA hmA hgA hmay
 by_cases cf : 0 ≤ f ∧ f ≤ (n : Int) - 1
 ·
  skip
  by_cases ct : 0 ≤ t ∧ t ≤ (n : Int) - 1
  ·
   skip
   by_cases cft : f = t
   ·
    skip
    have zcf : decide (0 ≤ f ∧ f ≤ (n : Int) - 1) = true := decide_eq_true cf
    have zct : decide (0 ≤ t ∧ t ≤ (n : Int) - 1) = true := decide_eq_true ct
    have zcft : (f != t) = false := by simp; exact cft
    have hrr : r = false := by rw [← hr]; exact decide_eq_false (by omega)
    subst hrr
    clear hr cf ct cft
    go_enter Tryz.func87, Tryz.ntmps87
    go_upto_region 1 with fail
    (try rw [hwA])
    (try rw [hg])
    clear hwA hg
    go_quiet ((go_at_call 60; exact Calls.quiet_of_same (rnw_q (by assumption) _ _)))
    go_wp2_with fail
    go_ret
    exact ⟨rfl, HMA.out.of2 (Mod.drewN _ _ _)⟩
   ·
    skip
    by_cases cw : 1 ≤ v ∧ v ≤ 1099511627776
    ·
     skip
     by_cases cm : m = -1
     ·
      skip
      have zcf : decide (0 ≤ f ∧ f ≤ (n : Int) - 1) = true := decide_eq_true cf
      have zct : decide (0 ≤ t ∧ t ≤ (n : Int) - 1) = true := decide_eq_true ct
      have zcft : (f != t) = true := by simp; exact cft
      have zcw : decide (1 ≤ v ∧ v ≤ 1099511627776) = true := decide_eq_true cw
      have zcm : (m == -1) = true := by simp; exact cm
      have hrr : r = true := by rw [← hr]; exact decide_eq_true (by omega)
      subst hrr
      clear hr cf ct cft cw cm
      go_enter Tryz.func87, Tryz.ntmps87
      go_upto_region 1 with fail
      (try rw [hwA])
      (try rw [hg])
      clear hwA hg
      go_quiet ((go_at_call 60; exact Calls.quiet_of_same (rnw_q (by assumption) _ _)))
      go_wp2_with fail
      go_ret
      exact ⟨rfl, HMA.out.of2 (Mod.drewN _ _ _)⟩
     ·
      skip
      by_cases chm : 0 ≤ m ∧ m ≤ (n : Int) - 1
      ·
       skip
       by_cases cmf : m = f
       ·
        skip
        have zcf : decide (0 ≤ f ∧ f ≤ (n : Int) - 1) = true := decide_eq_true cf
        have zct : decide (0 ≤ t ∧ t ≤ (n : Int) - 1) = true := decide_eq_true ct
        have zcft : (f != t) = true := by simp; exact cft
        have zcw : decide (1 ≤ v ∧ v ≤ 1099511627776) = true := decide_eq_true cw
        have zcm : (m == -1) = false := by simp; exact cm
        have zchm : decide (0 ≤ m ∧ m ≤ (n : Int) - 1) = true := decide_eq_true chm
        have zcmf : (m != f) = false := by simp; exact cmf
        have hrr : r = false := by rw [← hr]; exact decide_eq_false (by omega)
        subst hrr
        clear hr cf ct cft cw cm chm cmf
        go_enter Tryz.func87, Tryz.ntmps87
        go_upto_region 1 with fail
        (try rw [hwA])
        (try rw [hg])
        clear hwA hg
        go_quiet ((go_at_call 60; exact Calls.quiet_of_same (rnw_q (by assumption) _ _)))
        go_wp2_with fail
        go_ret
        exact ⟨rfl, HMA.out.of2 (Mod.drewN _ _ _)⟩
       ·
        skip
        by_cases cmt : m = t
        ·
         skip
         have zcf : decide (0 ≤ f ∧ f ≤ (n : Int) - 1) = true := decide_eq_true cf
         have zct : decide (0 ≤ t ∧ t ≤ (n : Int) - 1) = true := decide_eq_true ct
         have zcft : (f != t) = true := by simp; exact cft
         have zcw : decide (1 ≤ v ∧ v ≤ 1099511627776) = true := decide_eq_true cw
         have zcm : (m == -1) = false := by simp; exact cm
         have zchm : decide (0 ≤ m ∧ m ≤ (n : Int) - 1) = true := decide_eq_true chm
         have zcmf : (m != f) = true := by simp; exact cmf
         have zcmt : (m != t) = false := by simp; exact cmt
         have hrr : r = false := by rw [← hr]; exact decide_eq_false (by omega)
         subst hrr
         clear hr cf ct cft cw cm chm cmf cmt
         go_enter Tryz.func87, Tryz.ntmps87
         go_upto_region 1 with fail
         (try rw [hwA])
         (try rw [hg])
         clear hwA hg
         go_quiet ((go_at_call 60; exact Calls.quiet_of_same (rnw_q (by assumption) _ _)))
         go_wp2_with fail
         go_ret
         exact ⟨rfl, HMA.out.of2 (Mod.drewN _ _ _)⟩
        ·
         skip
         have zcf : decide (0 ≤ f ∧ f ≤ (n : Int) - 1) = true := decide_eq_true cf
         have zct : decide (0 ≤ t ∧ t ≤ (n : Int) - 1) = true := decide_eq_true ct
         have zcft : (f != t) = true := by simp; exact cft
         have zcw : decide (1 ≤ v ∧ v ≤ 1099511627776) = true := decide_eq_true cw
         have zcm : (m == -1) = false := by simp; exact cm
         have zchm : decide (0 ≤ m ∧ m ≤ (n : Int) - 1) = true := decide_eq_true chm
         have zcmf : (m != f) = true := by simp; exact cmf
         have zcmt : (m != t) = true := by simp; exact cmt
         have hrr : r = true := by rw [← hr]; exact decide_eq_true (by omega)
         subst hrr
         clear hr cf ct cft cw cm chm cmf cmt
         go_enter Tryz.func87, Tryz.ntmps87
         go_upto_region 1 with fail
         (try rw [hwA])
         (try rw [hg])
         clear hwA hg
         go_quiet ((go_at_call 60; exact Calls.quiet_of_same (rnw_q (by assumption) _ _)))
         go_wp2_with fail
         go_ret
         exact ⟨rfl, HMA.out.of2 (Mod.drewN _ _ _)⟩
      ·
       skip
       have zcf : decide (0 ≤ f ∧ f ≤ (n : Int) - 1) = true := decide_eq_true cf
       have zct : decide (0 ≤ t ∧ t ≤ (n : Int) - 1) = true := decide_eq_true ct
       have zcft : (f != t) = true := by simp; exact cft
       have zcw : decide (1 ≤ v ∧ v ≤ 1099511627776) = true := decide_eq_true cw
       have zcm : (m == -1) = false := by simp; exact cm
       have zchm : decide (0 ≤ m ∧ m ≤ (n : Int) - 1) = false := decide_eq_false chm
       have hrr : r = false := by rw [← hr]; exact decide_eq_false (by omega)
       subst hrr
       clear hr cf ct cft cw cm chm
       go_enter Tryz.func87, Tryz.ntmps87
       go_upto_region 1 with fail
       (try rw [hwA])
       (try rw [hg])
       clear hwA hg
       go_quiet ((go_at_call 60; exact Calls.quiet_of_same (rnw_q (by assumption) _ _)))
       go_wp2_with fail
       go_ret
       exact ⟨rfl, HMA.out.of2 (Mod.drewN _ _ _)⟩
    ·
     skip
     have zcf : decide (0 ≤ f ∧ f ≤ (n : Int) - 1) = true := decide_eq_true cf
     have zct : decide (0 ≤ t ∧ t ≤ (n : Int) - 1) = true := decide_eq_true ct
     have zcft : (f != t) = true := by simp; exact cft
     have zcw : decide (1 ≤ v ∧ v ≤ 1099511627776) = false := decide_eq_false cw
     have hrr : r = false := by rw [← hr]; exact decide_eq_false (by omega)
     subst hrr
     clear hr cf ct cft cw
     go_enter Tryz.func87, Tryz.ntmps87
     go_upto_region 1 with fail
     (try rw [hwA])
     (try rw [hg])
     clear hwA hg
     go_quiet ((go_at_call 60; exact Calls.quiet_of_same (rnw_q (by assumption) _ _)))
     go_wp2_with fail
     go_ret
     exact ⟨rfl, HMA.out.of2 (Mod.drewN _ _ _)⟩
  ·
   skip
   have zcf : decide (0 ≤ f ∧ f ≤ (n : Int) - 1) = true := decide_eq_true cf
   have zct : decide (0 ≤ t ∧ t ≤ (n : Int) - 1) = false := decide_eq_false ct
   have hrr : r = false := by rw [← hr]; exact decide_eq_false (by omega)
   subst hrr
   clear hr cf ct
   go_enter Tryz.func87, Tryz.ntmps87
   go_upto_region 1 with fail
   (try rw [hwA])
   (try rw [hg])
   clear hwA hg
   go_quiet ((go_at_call 60; exact Calls.quiet_of_same (rnw_q (by assumption) _ _)))
   go_wp2_with fail
   go_ret
   exact ⟨rfl, HMA.out.of2 (Mod.drewN _ _ _)⟩
 ·
  skip
  have zcf : decide (0 ≤ f ∧ f ≤ (n : Int) - 1) = false := decide_eq_false cf
  have hrr : r = false := by rw [← hr]; exact decide_eq_false (by omega)
  subst hrr
  clear hr cf
  go_enter Tryz.func87, Tryz.ntmps87
  go_upto_region 1 with fail
  (try rw [hwA])
  (try rw [hg])
  clear hwA hg
  go_quiet ((go_at_call 60; exact Calls.quiet_of_same (rnw_q (by assumption) _ _)))
  go_wp2_with fail
  go_ret
  exact ⟨rfl, HMA.out.of2 (Mod.drewN _ _ _)⟩
end Go.Proofs.YtjjedebjbgpimaaGreat
