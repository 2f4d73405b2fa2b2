/- WalkOrder walked. -/
import Derived.Test.YtmpcpmgpnccphaaAwake8
import Derived.Test.YtmpcpmgpnccphaaWalk
import Derived.Test.YtmpcpmgpnccphaaOpens
import Derived.Deep.DeepCutAuto
import Derived.Deep.CutBlock
namespace Go.Proofs.Ytmpcpmgpnccphaa
open Go.RowKit Mile
set_option maxRecDepth 100000
def OwnJ (B0 n : Nat) (xs : List Value) : Value → World → Prop := fun v W => ∃ a c, v = .slice a n c ∧ W.ownsRow B0 3 1 v n xs
def EmpJ (B0 : Nat) : Value → World → Prop := fun v W => ∃ a, v = .slice a 0 0 ∧ W.ownsRow B0 3 1 v 0 []
def LitJ (x : Int) : Value → World → Prop := fun v W => ∃ p, v = .slice (some ⟨p, 0, none⟩) 1 1 ∧ Rd W 1 v 1 [.int .i64 x]
theorem OwnJ.st {B0 n : Nat} {xs : List Value} : ∀ v w w', OwnJ B0 n xs v w → Mod (fun _ => False) w w' → OwnJ B0 n xs v w' := fun _ _ _ ⟨a, c, h, o⟩ m => ⟨a, c, h, Own.keep o m (fun _ _ e => e)⟩
theorem EmpJ.st {B0 : Nat} : ∀ v w w', EmpJ B0 v w → Mod (fun _ => False) w w' → EmpJ B0 v w' := fun _ _ _ ⟨a, h, o⟩ m => ⟨a, h, Own.keep o m (fun _ _ e => e)⟩
theorem LitJ.st {x : Int} : ∀ v w w', LitJ x v w → Mod (fun _ => False) w w' → LitJ x v w' := fun _ _ _ ⟨p, h, r⟩ m => ⟨p, h, r.keep m (fun _ _ e => e)⟩

set_option maxHeartbeats 32000000 in
theorem worder_all (w : World) (a1 : Option Addr) (n1 c1 : Nat) (xs : List Int) (hn1 : xs.length = n1) (hr1 : Rd w 1 (.slice a1 n1 c1) n1 (xs.map (Value.int .i64))) (a2 : Option Addr) (n2 c2 : Nat) (ys : List Int) (hn2 : ys.length = n2) (hr2 : Rd w 1 (.slice a2 n2 c2) n2 (ys.map (Value.int .i64))) (a3 : Option Addr) (n3 c3 : Nat) (zs : List Int) (hn3 : zs.length = n3) (hr3 : Rd w 1 (.slice a3 n3 c3) n3 (zs.map (Value.int .i64))) :
    Calls Try.prog 9 #[.slice a1 n1 c1, .slice a2 n2 c2, .slice a3 n3 c3] w fun e w' => e = .returned (.bool true) ∧ Mod (fun _ => False) w w' := by
  obtain ⟨iI, hiI, hzI, hsI, hbI⟩ := info_parts GR.infoI
  by_cases hlen0 : n1 ≤ 30
  case neg =>
    have HS : Hid (Ev (Mod (fun _ => False) w) w) := Lib.hid (Ev.mod w)
    have z0 : decide (30 < (n1 : Int)) = true := by simp; omega
    have z1 : decide (30 < n1) = true := by simp; omega
    go_enter Try.func9, Try.ntmps9
    go_wp2_with fail
    refine (awake8_any _).mono ?_
    rintro e wq1 ⟨rfl, hm⟩
    replace HS := Lib.hid (HS.out.step hm)
    clear hm
    go_wp2_with fail
    go_ret
    exact ⟨rfl, HS.out.now⟩
  by_cases hlen1 : n2 ≤ 30
  case neg =>
    have HS : Hid (Ev (Mod (fun _ => False) w) w) := Lib.hid (Ev.mod w)
    have y0 : decide (30 < (n1 : Int)) = false := by simp; omega
    have z0 : decide (30 < (n2 : Int)) = true := by simp; omega
    have z1 : decide (30 < n2) = true := by simp; omega
    go_enter Try.func9, Try.ntmps9
    go_wp2_with fail
    refine (awake8_any _).mono ?_
    rintro e wq2 ⟨rfl, hm⟩
    replace HS := Lib.hid (HS.out.step hm)
    clear hm
    go_wp2_with fail
    go_ret
    exact ⟨rfl, HS.out.now⟩
  by_cases hlen2 : n3 ≤ 30
  case neg =>
    have HS : Hid (Ev (Mod (fun _ => False) w) w) := Lib.hid (Ev.mod w)
    have y0 : decide (30 < (n1 : Int)) = false := by simp; omega
    have y1 : decide (30 < (n2 : Int)) = false := by simp; omega
    have z0 : decide (30 < (n3 : Int)) = true := by simp; omega
    have z1 : decide (30 < n3) = true := by simp; omega
    go_enter Try.func9, Try.ntmps9
    go_wp2_with fail
    refine (awake8_any _).mono ?_
    rintro e wq3 ⟨rfl, hm⟩
    replace HS := Lib.hid (HS.out.step hm)
    clear hm
    go_wp2_with fail
    go_ret
    exact ⟨rfl, HS.out.now⟩
  have HS : Hid (Ev (Mod (fun _ => False) w) w) := Lib.hid (Ev.mod w)
  have y0 : decide (30 < (n1 : Int)) = false := by simp; omega
  have y1 : decide (30 < (n2 : Int)) = false := by simp; omega
  have y2 : decide (30 < (n3 : Int)) = false := by simp; omega
  replace HS := Lib.hid ((Ev.rd hr1).and HS.out)
  replace HS := Lib.hid ((Ev.rd hr2).and HS.out)
  replace HS := Lib.hid ((Ev.rd hr3).and HS.out)
  have HN1 := Lib.hid hn1
  have HN2 := Lib.hid hn2
  have HN3 := Lib.hid hn3
  clear hn1 hn2 hn3 hr1 hr2 hr3
  go_enter Try.func9, Try.ntmps9
  have hxv := cmpL_val xs ys
  have hyv := cmpL_val ys zs
  have hng := cmpL_neg xs ys
  have heq := cmpL_eq xs ys
  have ht1 := cmpL_trans xs ys zs
  have ht2 := cmpL_trans' xs ys zs
  have HNG := Lib.hid hng
  have HEQ := Lib.hid heq
  have HT1 := Lib.hid ht1
  have HT2 := Lib.hid ht2
  have HXV := Lib.hid hxv
  have HYV := Lib.hid hyv
  clear hng heq ht1 ht2 hxv hyv
  obtain ⟨x, Hx0⟩ : ∃ qz, cmpL xs ys = qz := ⟨_, rfl⟩
  have Hx := Lib.hid Hx0
  clear Hx0
  obtain ⟨y, Hy0⟩ : ∃ qz, cmpL ys zs = qz := ⟨_, rfl⟩
  have Hy := Lib.hid Hy0
  clear Hy0
  obtain ⟨z, Hz0⟩ : ∃ qz, cmpL xs zs = qz := ⟨_, rfl⟩
  have Hz := Lib.hid Hz0
  clear Hz0
  rw [Hx.out] at HNG HEQ HT1 HT2 HXV
  rw [Hy.out] at HT1 HT2 HYV
  rw [Hz.out] at HT1 HT2
  go_wp2_with fail
  refine (wcmp_any _ a1 n1 c1 xs HN1.out ((HS.out.now).2.2.1) (by omega) a2 n2 c2 ys HN2.out ((HS.out.now).2.1) (by omega)).mono ?_
  rintro e wq4 ⟨rfl, hmm⟩
  replace HS := Lib.hid (HS.out.step hmm)
  clear hmm
  rw [Hx.out]
  go_wp2_with fail
  refine (wcmp_any _ a2 n2 c2 ys HN2.out ((HS.out.now).2.1) (by omega) a3 n3 c3 zs HN3.out ((HS.out.now).1) (by omega)).mono ?_
  rintro e wq5 ⟨rfl, hmm⟩
  replace HS := Lib.hid (HS.out.step hmm)
  clear hmm
  rw [Hy.out]
  go_wp2_with fail
  refine (wcmp_any _ a1 n1 c1 xs HN1.out ((HS.out.now).2.2.1) (by omega) a3 n3 c3 zs HN3.out ((HS.out.now).1) (by omega)).mono ?_
  rintro e wq6 ⟨rfl, hmm⟩
  replace HS := Lib.hid (HS.out.step hmm)
  clear hmm
  rw [Hz.out]
  clear y0 y1 y2
  go_upto_region 4 with fail
  rcases HXV.out with hv | hv | hv
  · subst hv
    rcases HYV.out with hv | hv | hv
    · subst hv
      have k1 : decide (z ≤ 0) = true := decide_eq_true (HT1.out (by omega) (by omega))
      have HNB : Hid (cmpL ys xs = 1) := Lib.hid (by rw [HNG.out]; try rfl)
      go_wp2_with fail
      refine (wcmp_any _ a2 n2 c2 ys HN2.out ((HS.out.now).2.1) (by omega) a1 n1 c1 xs HN1.out ((HS.out.now).2.2.1) (by omega)).mono ?_
      rintro e wq7 ⟨rfl, hmm⟩
      replace HS := Lib.hid (HS.out.step hmm)
      clear hmm
      rw [HNB.out]
      go_wp2_with fail
      refine (ints_same _ a1 n1 c1 xs HN1.out ((HS.out.now).2.2.1) a2 n2 c2 ys HN2.out ((HS.out.now).2.1) (by omega) false (by have h := HEQ.out; exact decide_eq_false (fun q => by have := h.2 q; omega))).mono ?_
      rintro e wq8 ⟨rfl, hmm⟩
      replace HS := Lib.hid (HS.out.step hmm)
      clear hmm
      go_wp2_with (first | (at_builtin; refine wpList_append_want rfl (.tmp 73) (.tmp 74) 22 rfl 3 iI (.int .i64 0) 1 8 Try.underlying22 hiI hzI hsI hbI rfl (by decide) _ 0 [] rfl (own_empty _ _ _ _ rfl) _ n1 (xs.map (Value.int .i64)) rfl (Rd.alloc ((HS.out.now).2.2.1) _) (by intro u hu; simp at hu; obtain ⟨_, _, rfl⟩ := hu; rfl) (by unfold maxLen; omega) (by omega) ?_; intro v4 w4 hap; obtain ⟨a4, c4, rfl⟩ := hap.form; have ho4 := hap.own; have lo4 := hap.low (B := wq8.heap.size) (by simp) (low_lit (Nat.le_refl _)); have hm4 := hap.modOld (Mod.alloc (fun _ => False) wq8 _) (low_lit (Nat.le_refl _)); simp only [Nat.zero_add, List.nil_append] at ho4 lo4; clear hap) | (at_builtin; refine wpList_append_want rfl (.tmp 75) (.tmp 76) 22 rfl 3 iI (.int .i64 0) 1 8 Try.underlying22 hiI hzI hsI hbI rfl (by decide) _ n1 _ rfl (World.ownsRow.alloc ho4 _) _ 1 [.int .i64 5] rfl (Rd.one _ _ _) (by intro u hu; simp at hu; subst hu; rfl) (by unfold maxLen; omega) (by omega) ?_; intro v5 w5 hap; obtain ⟨a5, c5, rfl⟩ := hap.form; have ho5 := hap.own; have lo5 := hap.low (B := wq8.heap.size) (by have := hm4.size; simp; omega) lo4; have hm5 := hap.modOld (hm4.thenAlloc _) lo4; clear hap))
      replace HS := Lib.hid (HS.out.step hm5)
      refine (wcmp_any _ a1 n1 c1 xs HN1.out ((HS.out.now).2.2.1) (by omega) a5 (n1 + 1) c5 (xs ++ [5]) (by rw [List.length_append, HN1.out]; rfl) (by rw [List.map_append]; exact Rd.ofOwn ho5) (by omega)).mono ?_
      rintro e wq9 ⟨rfl, hmm⟩
      replace HS := Lib.hid (HS.out.step hmm)
      clear hmm
      rw [cmpL_snoc]
      go_wp2_with fail
      refine (awake8_any _).mono ?_
      rintro e wq10 ⟨rfl, hmm⟩
      replace HS := Lib.hid (HS.out.step hmm)
      clear hmm
      go_wp2_with fail
      go_ret
      exact ⟨rfl, (HS.out.now).2.2.2⟩
    · subst hv
      have k1 : decide (z ≤ 0) = true := decide_eq_true (HT1.out (by omega) (by omega))
      have HNB : Hid (cmpL ys xs = 1) := Lib.hid (by rw [HNG.out]; try rfl)
      go_wp2_with fail
      refine (wcmp_any _ a2 n2 c2 ys HN2.out ((HS.out.now).2.1) (by omega) a1 n1 c1 xs HN1.out ((HS.out.now).2.2.1) (by omega)).mono ?_
      rintro e wq11 ⟨rfl, hmm⟩
      replace HS := Lib.hid (HS.out.step hmm)
      clear hmm
      rw [HNB.out]
      go_wp2_with fail
      refine (ints_same _ a1 n1 c1 xs HN1.out ((HS.out.now).2.2.1) a2 n2 c2 ys HN2.out ((HS.out.now).2.1) (by omega) false (by have h := HEQ.out; exact decide_eq_false (fun q => by have := h.2 q; omega))).mono ?_
      rintro e wq12 ⟨rfl, hmm⟩
      replace HS := Lib.hid (HS.out.step hmm)
      clear hmm
      go_wp2_with (first | (at_builtin; refine wpList_append_want rfl (.tmp 73) (.tmp 74) 22 rfl 3 iI (.int .i64 0) 1 8 Try.underlying22 hiI hzI hsI hbI rfl (by decide) _ 0 [] rfl (own_empty _ _ _ _ rfl) _ n1 (xs.map (Value.int .i64)) rfl (Rd.alloc ((HS.out.now).2.2.1) _) (by intro u hu; simp at hu; obtain ⟨_, _, rfl⟩ := hu; rfl) (by unfold maxLen; omega) (by omega) ?_; intro v4 w4 hap; obtain ⟨a4, c4, rfl⟩ := hap.form; have ho4 := hap.own; have lo4 := hap.low (B := wq12.heap.size) (by simp) (low_lit (Nat.le_refl _)); have hm4 := hap.modOld (Mod.alloc (fun _ => False) wq12 _) (low_lit (Nat.le_refl _)); simp only [Nat.zero_add, List.nil_append] at ho4 lo4; clear hap) | (at_builtin; refine wpList_append_want rfl (.tmp 75) (.tmp 76) 22 rfl 3 iI (.int .i64 0) 1 8 Try.underlying22 hiI hzI hsI hbI rfl (by decide) _ n1 _ rfl (World.ownsRow.alloc ho4 _) _ 1 [.int .i64 5] rfl (Rd.one _ _ _) (by intro u hu; simp at hu; subst hu; rfl) (by unfold maxLen; omega) (by omega) ?_; intro v5 w5 hap; obtain ⟨a5, c5, rfl⟩ := hap.form; have ho5 := hap.own; have lo5 := hap.low (B := wq12.heap.size) (by have := hm4.size; simp; omega) lo4; have hm5 := hap.modOld (hm4.thenAlloc _) lo4; clear hap))
      replace HS := Lib.hid (HS.out.step hm5)
      refine (wcmp_any _ a1 n1 c1 xs HN1.out ((HS.out.now).2.2.1) (by omega) a5 (n1 + 1) c5 (xs ++ [5]) (by rw [List.length_append, HN1.out]; rfl) (by rw [List.map_append]; exact Rd.ofOwn ho5) (by omega)).mono ?_
      rintro e wq13 ⟨rfl, hmm⟩
      replace HS := Lib.hid (HS.out.step hmm)
      clear hmm
      rw [cmpL_snoc]
      go_wp2_with fail
      refine (awake8_any _).mono ?_
      rintro e wq14 ⟨rfl, hmm⟩
      replace HS := Lib.hid (HS.out.step hmm)
      clear hmm
      go_wp2_with fail
      go_ret
      exact ⟨rfl, (HS.out.now).2.2.2⟩
    · subst hv
      have HNB : Hid (cmpL ys xs = 1) := Lib.hid (by rw [HNG.out]; try rfl)
      go_wp2_with fail
      refine (wcmp_any _ a2 n2 c2 ys HN2.out ((HS.out.now).2.1) (by omega) a1 n1 c1 xs HN1.out ((HS.out.now).2.2.1) (by omega)).mono ?_
      rintro e wq15 ⟨rfl, hmm⟩
      replace HS := Lib.hid (HS.out.step hmm)
      clear hmm
      rw [HNB.out]
      go_wp2_with fail
      refine (ints_same _ a1 n1 c1 xs HN1.out ((HS.out.now).2.2.1) a2 n2 c2 ys HN2.out ((HS.out.now).2.1) (by omega) false (by have h := HEQ.out; exact decide_eq_false (fun q => by have := h.2 q; omega))).mono ?_
      rintro e wq16 ⟨rfl, hmm⟩
      replace HS := Lib.hid (HS.out.step hmm)
      clear hmm
      go_wp2_with (first | (at_builtin; refine wpList_append_want rfl (.tmp 73) (.tmp 74) 22 rfl 3 iI (.int .i64 0) 1 8 Try.underlying22 hiI hzI hsI hbI rfl (by decide) _ 0 [] rfl (own_empty _ _ _ _ rfl) _ n1 (xs.map (Value.int .i64)) rfl (Rd.alloc ((HS.out.now).2.2.1) _) (by intro u hu; simp at hu; obtain ⟨_, _, rfl⟩ := hu; rfl) (by unfold maxLen; omega) (by omega) ?_; intro v4 w4 hap; obtain ⟨a4, c4, rfl⟩ := hap.form; have ho4 := hap.own; have lo4 := hap.low (B := wq16.heap.size) (by simp) (low_lit (Nat.le_refl _)); have hm4 := hap.modOld (Mod.alloc (fun _ => False) wq16 _) (low_lit (Nat.le_refl _)); simp only [Nat.zero_add, List.nil_append] at ho4 lo4; clear hap) | (at_builtin; refine wpList_append_want rfl (.tmp 75) (.tmp 76) 22 rfl 3 iI (.int .i64 0) 1 8 Try.underlying22 hiI hzI hsI hbI rfl (by decide) _ n1 _ rfl (World.ownsRow.alloc ho4 _) _ 1 [.int .i64 5] rfl (Rd.one _ _ _) (by intro u hu; simp at hu; subst hu; rfl) (by unfold maxLen; omega) (by omega) ?_; intro v5 w5 hap; obtain ⟨a5, c5, rfl⟩ := hap.form; have ho5 := hap.own; have lo5 := hap.low (B := wq16.heap.size) (by have := hm4.size; simp; omega) lo4; have hm5 := hap.modOld (hm4.thenAlloc _) lo4; clear hap))
      replace HS := Lib.hid (HS.out.step hm5)
      refine (wcmp_any _ a1 n1 c1 xs HN1.out ((HS.out.now).2.2.1) (by omega) a5 (n1 + 1) c5 (xs ++ [5]) (by rw [List.length_append, HN1.out]; rfl) (by rw [List.map_append]; exact Rd.ofOwn ho5) (by omega)).mono ?_
      rintro e wq17 ⟨rfl, hmm⟩
      replace HS := Lib.hid (HS.out.step hmm)
      clear hmm
      rw [cmpL_snoc]
      go_wp2_with fail
      refine (awake8_any _).mono ?_
      rintro e wq18 ⟨rfl, hmm⟩
      replace HS := Lib.hid (HS.out.step hmm)
      clear hmm
      go_wp2_with fail
      go_ret
      exact ⟨rfl, (HS.out.now).2.2.2⟩
  · subst hv
    rcases HYV.out with hv | hv | hv
    · subst hv
      have k1 : decide (z ≤ 0) = true := decide_eq_true (HT1.out (by omega) (by omega))
      have HNB : Hid (cmpL ys xs = 0) := Lib.hid (by rw [HNG.out]; try rfl)
      go_wp2_with fail
      refine (wcmp_any _ a2 n2 c2 ys HN2.out ((HS.out.now).2.1) (by omega) a1 n1 c1 xs HN1.out ((HS.out.now).2.2.1) (by omega)).mono ?_
      rintro e wq19 ⟨rfl, hmm⟩
      replace HS := Lib.hid (HS.out.step hmm)
      clear hmm
      rw [HNB.out]
      go_wp2_with fail
      refine (ints_same _ a1 n1 c1 xs HN1.out ((HS.out.now).2.2.1) a2 n2 c2 ys HN2.out ((HS.out.now).2.1) (by omega) true (by have h := HEQ.out; exact decide_eq_true (by simpa using h))).mono ?_
      rintro e wq20 ⟨rfl, hmm⟩
      replace HS := Lib.hid (HS.out.step hmm)
      clear hmm
      go_wp2_with (first | (at_builtin; refine wpList_append_want rfl (.tmp 73) (.tmp 74) 22 rfl 3 iI (.int .i64 0) 1 8 Try.underlying22 hiI hzI hsI hbI rfl (by decide) _ 0 [] rfl (own_empty _ _ _ _ rfl) _ n1 (xs.map (Value.int .i64)) rfl (Rd.alloc ((HS.out.now).2.2.1) _) (by intro u hu; simp at hu; obtain ⟨_, _, rfl⟩ := hu; rfl) (by unfold maxLen; omega) (by omega) ?_; intro v4 w4 hap; obtain ⟨a4, c4, rfl⟩ := hap.form; have ho4 := hap.own; have lo4 := hap.low (B := wq20.heap.size) (by simp) (low_lit (Nat.le_refl _)); have hm4 := hap.modOld (Mod.alloc (fun _ => False) wq20 _) (low_lit (Nat.le_refl _)); simp only [Nat.zero_add, List.nil_append] at ho4 lo4; clear hap) | (at_builtin; refine wpList_append_want rfl (.tmp 75) (.tmp 76) 22 rfl 3 iI (.int .i64 0) 1 8 Try.underlying22 hiI hzI hsI hbI rfl (by decide) _ n1 _ rfl (World.ownsRow.alloc ho4 _) _ 1 [.int .i64 5] rfl (Rd.one _ _ _) (by intro u hu; simp at hu; subst hu; rfl) (by unfold maxLen; omega) (by omega) ?_; intro v5 w5 hap; obtain ⟨a5, c5, rfl⟩ := hap.form; have ho5 := hap.own; have lo5 := hap.low (B := wq20.heap.size) (by have := hm4.size; simp; omega) lo4; have hm5 := hap.modOld (hm4.thenAlloc _) lo4; clear hap))
      replace HS := Lib.hid (HS.out.step hm5)
      refine (wcmp_any _ a1 n1 c1 xs HN1.out ((HS.out.now).2.2.1) (by omega) a5 (n1 + 1) c5 (xs ++ [5]) (by rw [List.length_append, HN1.out]; rfl) (by rw [List.map_append]; exact Rd.ofOwn ho5) (by omega)).mono ?_
      rintro e wq21 ⟨rfl, hmm⟩
      replace HS := Lib.hid (HS.out.step hmm)
      clear hmm
      rw [cmpL_snoc]
      go_wp2_with fail
      refine (awake8_any _).mono ?_
      rintro e wq22 ⟨rfl, hmm⟩
      replace HS := Lib.hid (HS.out.step hmm)
      clear hmm
      go_wp2_with fail
      go_ret
      exact ⟨rfl, (HS.out.now).2.2.2⟩
    · subst hv
      have k1 : decide (z ≤ 0) = true := decide_eq_true (HT1.out (by omega) (by omega))
      have k2 : decide (0 ≤ z) = true := decide_eq_true (HT2.out (by omega) (by omega))
      have HNB : Hid (cmpL ys xs = 0) := Lib.hid (by rw [HNG.out]; try rfl)
      go_wp2_with fail
      refine (wcmp_any _ a2 n2 c2 ys HN2.out ((HS.out.now).2.1) (by omega) a1 n1 c1 xs HN1.out ((HS.out.now).2.2.1) (by omega)).mono ?_
      rintro e wq23 ⟨rfl, hmm⟩
      replace HS := Lib.hid (HS.out.step hmm)
      clear hmm
      rw [HNB.out]
      go_wp2_with fail
      refine (ints_same _ a1 n1 c1 xs HN1.out ((HS.out.now).2.2.1) a2 n2 c2 ys HN2.out ((HS.out.now).2.1) (by omega) true (by have h := HEQ.out; exact decide_eq_true (by simpa using h))).mono ?_
      rintro e wq24 ⟨rfl, hmm⟩
      replace HS := Lib.hid (HS.out.step hmm)
      clear hmm
      go_wp2_with (first | (at_builtin; refine wpList_append_want rfl (.tmp 73) (.tmp 74) 22 rfl 3 iI (.int .i64 0) 1 8 Try.underlying22 hiI hzI hsI hbI rfl (by decide) _ 0 [] rfl (own_empty _ _ _ _ rfl) _ n1 (xs.map (Value.int .i64)) rfl (Rd.alloc ((HS.out.now).2.2.1) _) (by intro u hu; simp at hu; obtain ⟨_, _, rfl⟩ := hu; rfl) (by unfold maxLen; omega) (by omega) ?_; intro v4 w4 hap; obtain ⟨a4, c4, rfl⟩ := hap.form; have ho4 := hap.own; have lo4 := hap.low (B := wq24.heap.size) (by simp) (low_lit (Nat.le_refl _)); have hm4 := hap.modOld (Mod.alloc (fun _ => False) wq24 _) (low_lit (Nat.le_refl _)); simp only [Nat.zero_add, List.nil_append] at ho4 lo4; clear hap) | (at_builtin; refine wpList_append_want rfl (.tmp 75) (.tmp 76) 22 rfl 3 iI (.int .i64 0) 1 8 Try.underlying22 hiI hzI hsI hbI rfl (by decide) _ n1 _ rfl (World.ownsRow.alloc ho4 _) _ 1 [.int .i64 5] rfl (Rd.one _ _ _) (by intro u hu; simp at hu; subst hu; rfl) (by unfold maxLen; omega) (by omega) ?_; intro v5 w5 hap; obtain ⟨a5, c5, rfl⟩ := hap.form; have ho5 := hap.own; have lo5 := hap.low (B := wq24.heap.size) (by have := hm4.size; simp; omega) lo4; have hm5 := hap.modOld (hm4.thenAlloc _) lo4; clear hap))
      replace HS := Lib.hid (HS.out.step hm5)
      refine (wcmp_any _ a1 n1 c1 xs HN1.out ((HS.out.now).2.2.1) (by omega) a5 (n1 + 1) c5 (xs ++ [5]) (by rw [List.length_append, HN1.out]; rfl) (by rw [List.map_append]; exact Rd.ofOwn ho5) (by omega)).mono ?_
      rintro e wq25 ⟨rfl, hmm⟩
      replace HS := Lib.hid (HS.out.step hmm)
      clear hmm
      rw [cmpL_snoc]
      go_wp2_with fail
      refine (awake8_any _).mono ?_
      rintro e wq26 ⟨rfl, hmm⟩
      replace HS := Lib.hid (HS.out.step hmm)
      clear hmm
      go_wp2_with fail
      go_ret
      exact ⟨rfl, (HS.out.now).2.2.2⟩
    · subst hv
      have k2 : decide (0 ≤ z) = true := decide_eq_true (HT2.out (by omega) (by omega))
      have HNB : Hid (cmpL ys xs = 0) := Lib.hid (by rw [HNG.out]; try rfl)
      go_wp2_with fail
      refine (wcmp_any _ a2 n2 c2 ys HN2.out ((HS.out.now).2.1) (by omega) a1 n1 c1 xs HN1.out ((HS.out.now).2.2.1) (by omega)).mono ?_
      rintro e wq27 ⟨rfl, hmm⟩
      replace HS := Lib.hid (HS.out.step hmm)
      clear hmm
      rw [HNB.out]
      go_wp2_with fail
      refine (ints_same _ a1 n1 c1 xs HN1.out ((HS.out.now).2.2.1) a2 n2 c2 ys HN2.out ((HS.out.now).2.1) (by omega) true (by have h := HEQ.out; exact decide_eq_true (by simpa using h))).mono ?_
      rintro e wq28 ⟨rfl, hmm⟩
      replace HS := Lib.hid (HS.out.step hmm)
      clear hmm
      go_wp2_with (first | (at_builtin; refine wpList_append_want rfl (.tmp 73) (.tmp 74) 22 rfl 3 iI (.int .i64 0) 1 8 Try.underlying22 hiI hzI hsI hbI rfl (by decide) _ 0 [] rfl (own_empty _ _ _ _ rfl) _ n1 (xs.map (Value.int .i64)) rfl (Rd.alloc ((HS.out.now).2.2.1) _) (by intro u hu; simp at hu; obtain ⟨_, _, rfl⟩ := hu; rfl) (by unfold maxLen; omega) (by omega) ?_; intro v4 w4 hap; obtain ⟨a4, c4, rfl⟩ := hap.form; have ho4 := hap.own; have lo4 := hap.low (B := wq28.heap.size) (by simp) (low_lit (Nat.le_refl _)); have hm4 := hap.modOld (Mod.alloc (fun _ => False) wq28 _) (low_lit (Nat.le_refl _)); simp only [Nat.zero_add, List.nil_append] at ho4 lo4; clear hap) | (at_builtin; refine wpList_append_want rfl (.tmp 75) (.tmp 76) 22 rfl 3 iI (.int .i64 0) 1 8 Try.underlying22 hiI hzI hsI hbI rfl (by decide) _ n1 _ rfl (World.ownsRow.alloc ho4 _) _ 1 [.int .i64 5] rfl (Rd.one _ _ _) (by intro u hu; simp at hu; subst hu; rfl) (by unfold maxLen; omega) (by omega) ?_; intro v5 w5 hap; obtain ⟨a5, c5, rfl⟩ := hap.form; have ho5 := hap.own; have lo5 := hap.low (B := wq28.heap.size) (by have := hm4.size; simp; omega) lo4; have hm5 := hap.modOld (hm4.thenAlloc _) lo4; clear hap))
      replace HS := Lib.hid (HS.out.step hm5)
      refine (wcmp_any _ a1 n1 c1 xs HN1.out ((HS.out.now).2.2.1) (by omega) a5 (n1 + 1) c5 (xs ++ [5]) (by rw [List.length_append, HN1.out]; rfl) (by rw [List.map_append]; exact Rd.ofOwn ho5) (by omega)).mono ?_
      rintro e wq29 ⟨rfl, hmm⟩
      replace HS := Lib.hid (HS.out.step hmm)
      clear hmm
      rw [cmpL_snoc]
      go_wp2_with fail
      refine (awake8_any _).mono ?_
      rintro e wq30 ⟨rfl, hmm⟩
      replace HS := Lib.hid (HS.out.step hmm)
      clear hmm
      go_wp2_with fail
      go_ret
      exact ⟨rfl, (HS.out.now).2.2.2⟩
  · subst hv
    rcases HYV.out with hv | hv | hv
    · subst hv
      have HNB : Hid (cmpL ys xs = -1) := Lib.hid (by rw [HNG.out]; try rfl)
      go_wp2_with fail
      refine (wcmp_any _ a2 n2 c2 ys HN2.out ((HS.out.now).2.1) (by omega) a1 n1 c1 xs HN1.out ((HS.out.now).2.2.1) (by omega)).mono ?_
      rintro e wq31 ⟨rfl, hmm⟩
      replace HS := Lib.hid (HS.out.step hmm)
      clear hmm
      rw [HNB.out]
      go_wp2_with fail
      refine (ints_same _ a1 n1 c1 xs HN1.out ((HS.out.now).2.2.1) a2 n2 c2 ys HN2.out ((HS.out.now).2.1) (by omega) false (by have h := HEQ.out; exact decide_eq_false (fun q => by have := h.2 q; omega))).mono ?_
      rintro e wq32 ⟨rfl, hmm⟩
      replace HS := Lib.hid (HS.out.step hmm)
      clear hmm
      go_wp2_with (first | (at_builtin; refine wpList_append_want rfl (.tmp 73) (.tmp 74) 22 rfl 3 iI (.int .i64 0) 1 8 Try.underlying22 hiI hzI hsI hbI rfl (by decide) _ 0 [] rfl (own_empty _ _ _ _ rfl) _ n1 (xs.map (Value.int .i64)) rfl (Rd.alloc ((HS.out.now).2.2.1) _) (by intro u hu; simp at hu; obtain ⟨_, _, rfl⟩ := hu; rfl) (by unfold maxLen; omega) (by omega) ?_; intro v4 w4 hap; obtain ⟨a4, c4, rfl⟩ := hap.form; have ho4 := hap.own; have lo4 := hap.low (B := wq32.heap.size) (by simp) (low_lit (Nat.le_refl _)); have hm4 := hap.modOld (Mod.alloc (fun _ => False) wq32 _) (low_lit (Nat.le_refl _)); simp only [Nat.zero_add, List.nil_append] at ho4 lo4; clear hap) | (at_builtin; refine wpList_append_want rfl (.tmp 75) (.tmp 76) 22 rfl 3 iI (.int .i64 0) 1 8 Try.underlying22 hiI hzI hsI hbI rfl (by decide) _ n1 _ rfl (World.ownsRow.alloc ho4 _) _ 1 [.int .i64 5] rfl (Rd.one _ _ _) (by intro u hu; simp at hu; subst hu; rfl) (by unfold maxLen; omega) (by omega) ?_; intro v5 w5 hap; obtain ⟨a5, c5, rfl⟩ := hap.form; have ho5 := hap.own; have lo5 := hap.low (B := wq32.heap.size) (by have := hm4.size; simp; omega) lo4; have hm5 := hap.modOld (hm4.thenAlloc _) lo4; clear hap))
      replace HS := Lib.hid (HS.out.step hm5)
      refine (wcmp_any _ a1 n1 c1 xs HN1.out ((HS.out.now).2.2.1) (by omega) a5 (n1 + 1) c5 (xs ++ [5]) (by rw [List.length_append, HN1.out]; rfl) (by rw [List.map_append]; exact Rd.ofOwn ho5) (by omega)).mono ?_
      rintro e wq33 ⟨rfl, hmm⟩
      replace HS := Lib.hid (HS.out.step hmm)
      clear hmm
      rw [cmpL_snoc]
      go_wp2_with fail
      refine (awake8_any _).mono ?_
      rintro e wq34 ⟨rfl, hmm⟩
      replace HS := Lib.hid (HS.out.step hmm)
      clear hmm
      go_wp2_with fail
      go_ret
      exact ⟨rfl, (HS.out.now).2.2.2⟩
    · subst hv
      have k2 : decide (0 ≤ z) = true := decide_eq_true (HT2.out (by omega) (by omega))
      have HNB : Hid (cmpL ys xs = -1) := Lib.hid (by rw [HNG.out]; try rfl)
      go_wp2_with fail
      refine (wcmp_any _ a2 n2 c2 ys HN2.out ((HS.out.now).2.1) (by omega) a1 n1 c1 xs HN1.out ((HS.out.now).2.2.1) (by omega)).mono ?_
      rintro e wq35 ⟨rfl, hmm⟩
      replace HS := Lib.hid (HS.out.step hmm)
      clear hmm
      rw [HNB.out]
      go_wp2_with fail
      refine (ints_same _ a1 n1 c1 xs HN1.out ((HS.out.now).2.2.1) a2 n2 c2 ys HN2.out ((HS.out.now).2.1) (by omega) false (by have h := HEQ.out; exact decide_eq_false (fun q => by have := h.2 q; omega))).mono ?_
      rintro e wq36 ⟨rfl, hmm⟩
      replace HS := Lib.hid (HS.out.step hmm)
      clear hmm
      go_wp2_with (first | (at_builtin; refine wpList_append_want rfl (.tmp 73) (.tmp 74) 22 rfl 3 iI (.int .i64 0) 1 8 Try.underlying22 hiI hzI hsI hbI rfl (by decide) _ 0 [] rfl (own_empty _ _ _ _ rfl) _ n1 (xs.map (Value.int .i64)) rfl (Rd.alloc ((HS.out.now).2.2.1) _) (by intro u hu; simp at hu; obtain ⟨_, _, rfl⟩ := hu; rfl) (by unfold maxLen; omega) (by omega) ?_; intro v4 w4 hap; obtain ⟨a4, c4, rfl⟩ := hap.form; have ho4 := hap.own; have lo4 := hap.low (B := wq36.heap.size) (by simp) (low_lit (Nat.le_refl _)); have hm4 := hap.modOld (Mod.alloc (fun _ => False) wq36 _) (low_lit (Nat.le_refl _)); simp only [Nat.zero_add, List.nil_append] at ho4 lo4; clear hap) | (at_builtin; refine wpList_append_want rfl (.tmp 75) (.tmp 76) 22 rfl 3 iI (.int .i64 0) 1 8 Try.underlying22 hiI hzI hsI hbI rfl (by decide) _ n1 _ rfl (World.ownsRow.alloc ho4 _) _ 1 [.int .i64 5] rfl (Rd.one _ _ _) (by intro u hu; simp at hu; subst hu; rfl) (by unfold maxLen; omega) (by omega) ?_; intro v5 w5 hap; obtain ⟨a5, c5, rfl⟩ := hap.form; have ho5 := hap.own; have lo5 := hap.low (B := wq36.heap.size) (by have := hm4.size; simp; omega) lo4; have hm5 := hap.modOld (hm4.thenAlloc _) lo4; clear hap))
      replace HS := Lib.hid (HS.out.step hm5)
      refine (wcmp_any _ a1 n1 c1 xs HN1.out ((HS.out.now).2.2.1) (by omega) a5 (n1 + 1) c5 (xs ++ [5]) (by rw [List.length_append, HN1.out]; rfl) (by rw [List.map_append]; exact Rd.ofOwn ho5) (by omega)).mono ?_
      rintro e wq37 ⟨rfl, hmm⟩
      replace HS := Lib.hid (HS.out.step hmm)
      clear hmm
      rw [cmpL_snoc]
      go_wp2_with fail
      refine (awake8_any _).mono ?_
      rintro e wq38 ⟨rfl, hmm⟩
      replace HS := Lib.hid (HS.out.step hmm)
      clear hmm
      go_wp2_with fail
      go_ret
      exact ⟨rfl, (HS.out.now).2.2.2⟩
    · subst hv
      have k2 : decide (0 ≤ z) = true := decide_eq_true (HT2.out (by omega) (by omega))
      have HNB : Hid (cmpL ys xs = -1) := Lib.hid (by rw [HNG.out]; try rfl)
      go_wp2_with fail
      refine (wcmp_any _ a2 n2 c2 ys HN2.out ((HS.out.now).2.1) (by omega) a1 n1 c1 xs HN1.out ((HS.out.now).2.2.1) (by omega)).mono ?_
      rintro e wq39 ⟨rfl, hmm⟩
      replace HS := Lib.hid (HS.out.step hmm)
      clear hmm
      rw [HNB.out]
      go_wp2_with fail
      refine (ints_same _ a1 n1 c1 xs HN1.out ((HS.out.now).2.2.1) a2 n2 c2 ys HN2.out ((HS.out.now).2.1) (by omega) false (by have h := HEQ.out; exact decide_eq_false (fun q => by have := h.2 q; omega))).mono ?_
      rintro e wq40 ⟨rfl, hmm⟩
      replace HS := Lib.hid (HS.out.step hmm)
      clear hmm
      go_wp2_with (first | (at_builtin; refine wpList_append_want rfl (.tmp 73) (.tmp 74) 22 rfl 3 iI (.int .i64 0) 1 8 Try.underlying22 hiI hzI hsI hbI rfl (by decide) _ 0 [] rfl (own_empty _ _ _ _ rfl) _ n1 (xs.map (Value.int .i64)) rfl (Rd.alloc ((HS.out.now).2.2.1) _) (by intro u hu; simp at hu; obtain ⟨_, _, rfl⟩ := hu; rfl) (by unfold maxLen; omega) (by omega) ?_; intro v4 w4 hap; obtain ⟨a4, c4, rfl⟩ := hap.form; have ho4 := hap.own; have lo4 := hap.low (B := wq40.heap.size) (by simp) (low_lit (Nat.le_refl _)); have hm4 := hap.modOld (Mod.alloc (fun _ => False) wq40 _) (low_lit (Nat.le_refl _)); simp only [Nat.zero_add, List.nil_append] at ho4 lo4; clear hap) | (at_builtin; refine wpList_append_want rfl (.tmp 75) (.tmp 76) 22 rfl 3 iI (.int .i64 0) 1 8 Try.underlying22 hiI hzI hsI hbI rfl (by decide) _ n1 _ rfl (World.ownsRow.alloc ho4 _) _ 1 [.int .i64 5] rfl (Rd.one _ _ _) (by intro u hu; simp at hu; subst hu; rfl) (by unfold maxLen; omega) (by omega) ?_; intro v5 w5 hap; obtain ⟨a5, c5, rfl⟩ := hap.form; have ho5 := hap.own; have lo5 := hap.low (B := wq40.heap.size) (by have := hm4.size; simp; omega) lo4; have hm5 := hap.modOld (hm4.thenAlloc _) lo4; clear hap))
      replace HS := Lib.hid (HS.out.step hm5)
      refine (wcmp_any _ a1 n1 c1 xs HN1.out ((HS.out.now).2.2.1) (by omega) a5 (n1 + 1) c5 (xs ++ [5]) (by rw [List.length_append, HN1.out]; rfl) (by rw [List.map_append]; exact Rd.ofOwn ho5) (by omega)).mono ?_
      rintro e wq41 ⟨rfl, hmm⟩
      replace HS := Lib.hid (HS.out.step hmm)
      clear hmm
      rw [cmpL_snoc]
      go_wp2_with fail
      refine (awake8_any _).mono ?_
      rintro e wq42 ⟨rfl, hmm⟩
      replace HS := Lib.hid (HS.out.step hmm)
      clear hmm
      go_wp2_with fail
      go_ret
      exact ⟨rfl, (HS.out.now).2.2.2⟩
theorem worder_law (w : World) (a1 : Option Addr) (n1 c1 : Nat) (xs : List Int) (ok1 : (encSlice (encInt .i64)).ok w (.slice a1 n1 c1, xs)) (a2 : Option Addr) (n2 c2 : Nat) (ys : List Int) (ok2 : (encSlice (encInt .i64)).ok w (.slice a2 n2 c2, ys)) (a3 : Option Addr) (n3 c3 : Nat) (zs : List Int) (ok3 : (encSlice (encInt .i64)).ok w (.slice a3 n3 c3, zs)) :
    Calls Try.prog 9 #[.slice a1 n1 c1, .slice a2 n2 c2, .slice a3 n3 c3] w fun e w' => e = .returned (.bool true) ∧ Below w.heap.size w w' := by
  obtain ⟨h1, r1, _⟩ := ok_ints ok1
  obtain ⟨h2, r2, _⟩ := ok_ints ok2
  obtain ⟨h3, r3, _⟩ := ok_ints ok3
  exact (worder_all w a1 n1 c1 xs h1 r1 a2 n2 c2 ys h2 r2 a3 n3 c3 zs h3 r3).mono fun e w' h => ⟨h.1, h.2.below (Nat.le_refl _) (fun _ e => e.elim)⟩
end Go.Proofs.Ytmpcpmgpnccphaa
