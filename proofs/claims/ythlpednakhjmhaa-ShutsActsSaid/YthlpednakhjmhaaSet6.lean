/- shuts.Set's Lapse by contract. -/
import Derived.Test.YthlpednakhjmhaaSet5
import Derived.Deep.DeepCutAuto
import Derived.Deep.CutBlock
namespace Go.Proofs.Ythlpednakhjmhaa
open Go.RowKit Mile
set_option maxRecDepth 100000
theorem over_has (us : List Int) (n : Nat) (t : Int) : hasB n (overL t (allK us n)) = true := by
  unfold hasB
  rw [List.all_eq_true]
  intro x hx
  unfold overL allK at hx
  obtain ⟨y, hy, rfl⟩ := List.mem_map.1 hx
  obtain ⟨i, hi, rfl⟩ := List.mem_map.1 (List.mem_filter.1 hy).1
  have := List.mem_range.1 (List.mem_filter.1 hi).1
  exact decide_eq_true ⟨by simp, by simpa using this⟩
theorem rd2s {w : World} {n c : Nat} {a : Option Addr} {S : List (Int × Int)} (h : Rd w 2 (.slice a n c) n (S.flatMap c2s)) (i : Nat) (hi : i < S.length) :
    ∃ b o, elemA a i 2 = ⟨b, o, none⟩ ∧ w.cell? ⟨b, o, none⟩ = some (.int .i64 S[i].1) ∧ w.cell? ⟨b, o + 1, none⟩ = some (.int .i64 S[i].2) := by
  have hc : ∀ l : List (Int × Int), (l.flatMap c2s).length = l.length * 2 := by
    intro l; induction l with
    | nil => rfl
    | cons x l ih => rw [List.flatMap_cons, List.length_append, ih, List.length_cons]; simp [c2s]; omega
  have hn : n = S.length := by have := h.1; rw [hc] at this; omega
  obtain ⟨b, o, hp, _⟩ := h.place (j := i) (by omega)
  have hg : ∀ (l : List (Int × Int)) (i : Nat) (hi : i < l.length), (l.flatMap c2s)[i * 2]? = some (.int .i64 l[i].1) ∧ (l.flatMap c2s)[i * 2 + 1]? = some (.int .i64 l[i].2) := by
    intro l; induction l with
    | nil => intro i hi; simp at hi
    | cons x l ih =>
      intro i hi
      cases i with
      | zero => simp [c2s]
      | succ i =>
        have := ih i (by simpa using hi)
        rw [List.flatMap_cons, List.getElem?_append_right (by simp [c2s]; omega), List.getElem?_append_right (by simp [c2s]; omega)]
        simp only [List.getElem_cons_succ]
        rw [show (i + 1) * 2 - (c2s x).length = i * 2 by simp [c2s]; omega, show (i + 1) * 2 + 1 - (c2s x).length = i * 2 + 1 by simp [c2s]; omega]
        exact this
  have := hg S i hi
  exact ⟨b, o, hp, by have := h.elemN hp 0 (by simpa using this.1); simpa using this, h.elemN hp 1 this.2⟩
set_option maxHeartbeats 8000000 in
theorem lapse_any (p n : Nat) (us : List Int) (w : World) (h : SO w p n us) (t : Int) :
    Calls Try.prog 15 #[.pointer (some ⟨p, 0, none⟩), .int .i64 t] w fun e w' => ∃ v, e = .returned v ∧ w'.ownsRow w.heap.size 3 1 v (turnL 0 us (overL t (allK us n))).length ((srtI (turnL 0 us (overL t (allK us n)))).map (Value.int .i64)) ∧ SO w' p n (putU 0 us (overL t (allK us n))) ∧ Mod (fun k => k = p) w w' := by
  obtain ⟨iI, hiI, hzI, hsI, hbI⟩ := info_parts infoI
  obtain ⟨iS, hiS, hzS, hsS, hbS⟩ := info_parts infoSh
  have hn := h.le
  have lp : p < w.heap.size := h.blk.lt
  have HS0 := Lib.hid h
  clear h
  obtain ⟨B0, hB0⟩ : ∃ b, w.heap.size = b := ⟨_, rfl⟩
  have HB0 := Lib.hid hB0
  rw [hB0] at lp
  clear hB0
  have hlen := allK_len us n
  obtain ⟨L, hL⟩ : ∃ L, allK us n = L := ⟨_, rfl⟩
  rw [hL] at hlen ⊢
  have HL := Lib.hid hL
  clear hL
  obtain ⟨m, hm⟩ : ∃ m, L.length = m := ⟨_, rfl⟩
  rw [hm] at hlen
  have HM0 := Lib.hid hm
  clear hm
  go_enter Try.func15, Try.ntmps15
  go_wp2_with fail
  refine (all_any p n us w HS0.out).mono ?_
  rintro e wA ⟨v, rfl, hom, hmA⟩
  rw [HL.out, HM0.out] at hom
  obtain ⟨al, cl, rfl⟩ := own_form hom
  have HOM := Lib.hid hom
  have HMA := Lib.hid hmA
  have HSZ : Hid (B0 ≤ wA.heap.size) := Lib.hid (by rw [← HB0.out]; exact hmA.size)
  clear hom hmA
  go_wp2_with fail
  go_loopw [5, 11] (fun v i wr => ∃ k : Nat, k ≤ m ∧ i = .int .i64 k ∧ Mod (fun _ => False) wA wr ∧ World.ownsRow wr wA.heap.size 3 1 v (overL t (L.take k)).length ((overL t (L.take k)).map (Value.int .i64))) (fun _ i _ => m - (intOf i).toNat)
  case atStart => exact ⟨0, by omega, rfl, Mod.refl _ _, World.ownsRow_nil _ _ _ _⟩
  case round =>
    obtain ⟨k, hk, rfl, hmr, hown⟩ := hrel
    obtain ⟨wo, hwo⟩ : ∃ x : World, x = wr := ⟨_, rfl⟩
    subst hwo
    obtain ⟨av, cv, rfl⟩ := own_form hown
    have hmo : Mod (fun _ => False) w wo := HMA.out.of2 hmr
    have hrm := (Rd.ofOwn HOM.out).keep hmr (fun _ _ e => e)
    have HM := Lib.hid hmr
    have HMO := Lib.hid hmo
    have HO := Lib.hid hown
    clear hmr hmo hown
    by_cases hlt : k < m
    case pos =>
      have hkl : k < L.length := by rw [HM0.out]; exact hlt
      have z0 : decide ((k : Int) < (m : Int)) = true := by simp; omega
      obtain ⟨eb, eo, hpl, e0, e1⟩ := rd2s hrm k hkl
      have hix := fun wx => run_indexS (P := Try.prog) wx 43 53 iS 2 Try.underlying43 hiS hsS al m cl k hlt (hrm.some_ (by omega))
      rw [hpl] at hix
      have has := overL_snoc t (L.take k) L[k]
      rw [← List.take_succ_eq_append_getElem hkl] at has
      obtain ⟨x, hx⟩ : ∃ x, (L[k]).1 = x := ⟨_, rfl⟩
      obtain ⟨y, hy⟩ : ∃ x, (L[k]).2 = x := ⟨_, rfl⟩
      rw [hx] at e0 has
      rw [hy] at e1 has
      have HAS := Lib.hid has
      clear hx hy hpl has hrm
      obtain ⟨ln, hln⟩ : ∃ q, (overL t (L.take k)).length = q := ⟨_, rfl⟩
      rw [hln] at HO ⊢
      have hlb : ln ≤ 512 := by rw [← hln]; have h1 := overL_len t (L.take k); have h2 : (L.take k).length ≤ k := List.length_take_le _ _; omega
      have HLN := Lib.hid hln
      clear hln
      have HSW : Hid (wA.heap.size ≤ wo.heap.size) := Lib.hid HM.out.size
      by_cases hc : y ≤ t
      case neg =>
        have zc : decide (y ≤ t) = false := by simpa using hc
        have HAK : Hid (overL t (L.take (k + 1)) = overL t (L.take k)) := Lib.hid (by rw [HAS.out, if_neg hc, List.append_nil])
        clear hc
        go_wp2_with fail
        go_roundw
        case rel => exact ⟨k + 1, hlt, by go_num, HM.out.thenAlloc _, by rw [HAK.out, HLN.out]; exact World.ownsRow.alloc HO.out _⟩
        case measure => simp [intOf]; omega
      case pos =>
        have zc : decide (y ≤ t) = true := by simpa using hc
        have HAK : Hid (overL t (L.take (k + 1)) = overL t (L.take k) ++ [x]) := Lib.hid (by rw [HAS.out, if_pos hc])
        clear hc
        go_wp2_with (at_builtin; refine wpList_append_any rfl (.tmp 19) (.tmp 22) 28 rfl 3 iI (.int .i64 0) 1 8 Try.underlying28 hiI hzI hsI hbI rfl (by decide) _ ln _ rfl (World.ownsRow.alloc (World.ownsRow.alloc (Own.base HO.out (Nat.zero_le _)) _) _) _ 1 [.int .i64 x] rfl (Rd.lit 3 [.int .i64 x] (0, 0) (wo.heap.size + 1) 1 (by simp) rfl (by decide)) (by simp [Value.oneCell']) (by unfold maxLen; omega) (by omega) ?_; intro v4 w4 hap; obtain ⟨a4, c4, rfl⟩ := hap.form; have ho4 := hap.own; have lo4 := hap.low (B := wA.heap.size) (by have := HSW.out; simp; omega) (fun q hq => (HO.out.lt q hq).1); have hm4 := hap.modOld ((HM.out.thenAlloc _).thenAlloc _) (fun q hq => (HO.out.lt q hq).1); have HO4 := Lib.hid (Own.rebase ho4 lo4); have HM4 := Lib.hid hm4; clear hap ho4 lo4 hm4)
        go_roundw
        case rel => exact ⟨k + 1, hlt, by go_num, HM4.out, by rw [HAK.out, List.length_append, HLN.out, List.map_append]; exact HO4.out⟩
        case measure => simp [intOf]; omega
    case neg =>
      obtain rfl : k = m := by omega
      have z0 : decide ((k : Int) < (k : Int)) = false := by simp
      have ht : L.take k = L := List.take_of_length_le (by rw [HM0.out]; exact Nat.le_refl _)
      have h1 := HO.out
      rw [ht] at h1 ⊢
      have hov := over_has us n t
      rw [HL.out] at hov
      have HOV := Lib.hid hov
      have HO5 := Lib.hid h1
      have hlb : (overL t L).length ≤ 100000 := by have := overL_len t L; have := HM0.out; omega
      have HSO := Lib.hid (HS0.out.keep HMO.out (fun e => e))
      clear h1 ht hov hrm
      go_wp2_with fail
      refine (put_any p n us wo HSO.out av (overL t L).length cv (overL t L) ⟨Rd.ofOwn HO5.out, rfl, fun q hq e => by have h1 := (HO5.out.lt q hq).1; have h2 := HSZ.out; omega⟩ hlb HOV.out 0).mono ?_
      rintro e w6 ⟨v, rfl, ho6, hs6, hm6⟩
      have HO6 := Lib.hid ho6
      have HS6 := Lib.hid hs6
      have HM6 := Lib.hid hm6
      clear ho6 hs6 hm6
      go_wp2_with fail
      go_ret
      exact ⟨v, rfl, Own.rebase HO6.out (fun q hq => Nat.le_trans HMO.out.size (HO6.out.lt q hq).1), HS6.out, HMO.out.trans HM6.out (fun _ _ e => e.elim) (fun _ _ e => e)⟩
end Go.Proofs.Ythlpednakhjmhaa
