/- The rows of a graph's nodes, as plain lists. -/
import Derived.Test.YtgiojfihgdifbaaLawN
import Derived.Test.YtgiojfihgdifbaaKRow
import Derived.Test.YtgiojfihgdifbaaKEv
import Derived.Lib.SliceRun
import Derived.Lib.Hide
import Derived.Test.YtgiojfihgdifbaaIRow
import Derived.Deep.DeepCutAuto
import Derived.Deep.CutBlock
namespace Go.Proofs.Ytgiojfihgdifbaa
open Go.RowKit Mile
theorem getD_map_eq {α : Type} (f : α → Int) (l : List α) (i : Nat) (h : i < l.length) : (l.map f).getD i (-1) = f l[i] := by simp [List.getD, h]
theorem idx_at (ks : List Int) (v : Int) (i : Nat) (h : i < (idx ks v).length) : ∃ k : Nat, (idx ks v)[i] = (k : Int) ∧ ∃ hk : k < ks.length, ks[k] = v := by
  have hm : (idx ks v)[i] ∈ idx ks v := List.getElem_mem h
  unfold idx at hm
  rw [List.mem_map] at hm
  obtain ⟨k, hk, he⟩ := hm
  rw [List.mem_filter, List.mem_range] at hk
  refine ⟨k, he.symm, hk.1, ?_⟩
  have := hk.2
  simp [List.getD, hk.1] at this
  exact this
theorem range_filter_pw (p : Nat → Bool) (n : Nat) : ((List.range n).filter p).Pairwise (· < ·) := List.Pairwise.filter p List.pairwise_lt_range
theorem idx_pw (ks : List Int) (v : Int) : (idx ks v).Pairwise (· < ·) := by
  unfold idx
  rw [List.pairwise_map]
  exact (range_filter_pw _ _).imp (fun h => by simpa using h)
theorem idx_rise (ks : List Int) (v : Int) (i : Nat) (h : i + 1 < (idx ks v).length) : (idx ks v)[i] < (idx ks v)[i + 1] :=
  List.pairwise_iff_getElem.1 (idx_pw ks v) i (i + 1) (by omega) h (by omega)
theorem keysF {G : GD} (h : May G) : KeysOk (G.E.map (·.1)) G.N.length := fun i hi => by
  have hi' : i < G.E.length := by simpa using hi
  rw [getD_map_eq _ _ _ hi']
  have := (h.2.2.1 _ (List.getElem_mem hi')).1
  omega
theorem keysT {G : GD} (h : May G) : KeysOk (G.E.map (·.2.1)) G.N.length := fun i hi => by
  have hi' : i < G.E.length := by simpa using hi
  rw [getD_map_eq _ _ _ hi']
  have := (h.2.2.1 _ (List.getElem_mem hi')).2.1
  omega
theorem below_next (ks : List Int) (k : Int) : belowI ks (k + 1) = belowI ks k + (idx ks k).length := by rw [below_succ, idx_eq, List.length_map]
theorem gOut_of (G : GD) (v : Nat) (h : v < G.N.length) : gOut G v = idx (G.E.map (·.1)) v := by unfold gOut; rw [if_pos (by omega)]
theorem gIn_of (G : GD) (v : Nat) (h : v < G.N.length) : gIn G v = idx (G.E.map (·.2.1)) v := by unfold gIn; rw [if_pos (by omega)]
theorem gOut_no (G : GD) (v : Int) (h : ¬ (0 ≤ v ∧ v < (G.N.length : Int))) : gOut G v = [] := by unfold gOut; rw [if_neg h]
theorem gIn_no (G : GD) (v : Int) (h : ¬ (0 ≤ v ∧ v < (G.N.length : Int))) : gIn G v = [] := by unfold gIn; rw [if_neg h]
/-- An edge that goes from a node, by its place in the row. -/
theorem gOut_at (G : GD) (v : Nat) (i : Nat) (h : i < (gOut G v).length) : ∃ k : Nat, (gOut G v)[i] = (k : Int) ∧ ∃ hk : k < G.E.length, (G.E[k]).1 = v := by
  by_cases hv : v < G.N.length
  · have e := gOut_of G v hv
    simp only [e] at h ⊢
    obtain ⟨k, h1, h2, h3⟩ := idx_at _ _ i h
    exact ⟨k, h1, by simpa using h2, by simpa using h3⟩
  · rw [gOut_no G v (by omega)] at h; simp at h
theorem gIn_at (G : GD) (v : Nat) (i : Nat) (h : i < (gIn G v).length) : ∃ k : Nat, (gIn G v)[i] = (k : Int) ∧ ∃ hk : k < G.E.length, (G.E[k]).2.1 = v := by
  by_cases hv : v < G.N.length
  · have e := gIn_of G v hv
    simp only [e] at h ⊢
    obtain ⟨k, h1, h2, h3⟩ := idx_at _ _ i h
    exact ⟨k, h1, by simpa using h2, by simpa using h3⟩
  · rw [gIn_no G v (by omega)] at h; simp at h
theorem gOut_rise (G : GD) (v : Nat) (i : Nat) (h : i + 1 < (gOut G v).length) : (gOut G v)[i] < (gOut G v)[i + 1] := by
  by_cases hv : v < G.N.length
  · have e := gOut_of G v hv
    simp only [e] at h ⊢
    exact idx_rise _ _ i h
  · rw [gOut_no G v (by omega)] at h; simp at h
theorem gIn_rise (G : GD) (v : Nat) (i : Nat) (h : i + 1 < (gIn G v).length) : (gIn G v)[i] < (gIn G v)[i + 1] := by
  by_cases hv : v < G.N.length
  · have e := gIn_of G v hv
    simp only [e] at h ⊢
    exact idx_rise _ _ i h
  · rw [gIn_no G v (by omega)] at h; simp at h
theorem gOut_first (G : GD) (h : May G) (h0 : 0 < G.E.length) : 0 < (gOut G (G.E[0]).1).length := by
  have hb := (h.2.2.1 _ (List.getElem_mem h0)).1
  unfold gOut
  rw [if_pos (by omega)]
  unfold idx
  rw [List.length_map, List.length_pos_iff_exists_mem]
  exact ⟨0, List.mem_filter.2 ⟨List.mem_range.2 (by simpa using h0), by simp [List.getD, h0]⟩⟩
end Go.Proofs.Ytgiojfihgdifbaa
namespace Mile
open Go Go.RowKit
/-- What stays. -/
def kept (p : Int → Bool) (xs : List Int) : List Int := xs.filter (fun x => !p x)
/-- Behind J of the row: those that stay stand ahead, the rest stands as it was. -/
def DelI (p : Int → Bool) (xs ys : List Int) (I J : Nat) : Prop := ys.length = xs.length ∧ J ≤ xs.length ∧ I < J ∧ I = (kept p (xs.take J)).length ∧ ys.take I = kept p (xs.take J) ∧ ys.drop J = xs.drop J
theorem kept_snoc (p : Int → Bool) (xs : List Int) (J : Nat) (h : J < xs.length) : kept p (xs.take (J + 1)) = kept p (xs.take J) ++ if p xs[J] then [] else [xs[J]] := by
  unfold kept
  rw [List.take_succ_eq_append_getElem h, List.filter_append]
  congr 1
  cases hp : p xs[J] <;> simp [hp]
theorem delI_start {p : Int → Bool} {xs : List Int} {k : Nat} (h : k < xs.length) (hp : p xs[k] = true) (ha : ∀ x ∈ xs.take k, p x = false) : DelI p xs xs k (k + 1) := by
  have h0 : kept p (xs.take k) = xs.take k := by unfold kept; rw [List.filter_eq_self]; intro x hx; simp [ha x hx]
  have h1 : kept p (xs.take (k + 1)) = xs.take k := by rw [kept_snoc p xs k h, h0]; simp [hp]
  exact ⟨rfl, h, by omega, by rw [h1, List.length_take]; omega, h1.symm, rfl⟩
theorem delI_at {p : Int → Bool} {xs ys : List Int} {I J : Nat} (h : DelI p xs ys I J) (hJ : J < xs.length) : ∃ hy : J < ys.length, ys[J] = xs[J] := by
  obtain ⟨h1, _, _, _, _, h6⟩ := h
  refine ⟨by omega, ?_⟩
  have e : (ys.drop J)[0]? = (xs.drop J)[0]? := by rw [h6]
  rw [List.getElem?_drop, List.getElem?_drop, Nat.add_zero] at e
  rw [List.getElem?_eq_getElem (by omega), List.getElem?_eq_getElem hJ] at e
  exact Option.some.inj e
theorem delI_skip {p : Int → Bool} {xs ys : List Int} {I J : Nat} (h : DelI p xs ys I J) (hJ : J < xs.length) (hp : p xs[J] = true) : DelI p xs ys I (J + 1) := by
  obtain ⟨h1, h2, h3, h4, h5, h6⟩ := h
  have hk : kept p (xs.take (J + 1)) = kept p (xs.take J) := by rw [kept_snoc p xs J hJ]; simp [hp]
  refine ⟨h1, hJ, by omega, by rw [hk]; exact h4, by rw [hk]; exact h5, ?_⟩
  have : (ys.drop J).drop 1 = (xs.drop J).drop 1 := by rw [h6]
  simpa [List.drop_drop, Nat.add_comm] using this
theorem delI_keep {p : Int → Bool} {xs ys : List Int} {I J : Nat} (h : DelI p xs ys I J) (hJ : J < xs.length) (hp : p xs[J] = false) : DelI p xs (ys.set I xs[J]) (I + 1) (J + 1) := by
  obtain ⟨h1, h2, h3, h4, h5, h6⟩ := h
  have hk : kept p (xs.take (J + 1)) = kept p (xs.take J) ++ [xs[J]] := by rw [kept_snoc p xs J hJ]; simp [hp]
  refine ⟨by simpa using h1, hJ, by omega, by rw [hk, List.length_append]; simp; exact h4, ?_, ?_⟩
  · rw [hk, ← h5, List.take_succ_eq_append_getElem (by simp; omega)]
    congr 1
    · rw [List.take_set_of_le (by omega)]
    · simp
  · rw [List.drop_set_of_lt (by omega)]
    have : (ys.drop J).drop 1 = (xs.drop J).drop 1 := by rw [h6]
    simpa [List.drop_drop, Nat.add_comm] using this
theorem delI_end {p : Int → Bool} {xs ys : List Int} {I : Nat} (h : DelI p xs ys I xs.length) : ys.take I = kept p xs ∧ I = (kept p xs).length ∧ I < xs.length := by
  obtain ⟨_, _, h3, h4, h5, _⟩ := h
  rw [List.take_length] at h4 h5
  exact ⟨h5, h4, h3⟩
theorem kept_none {p : Int → Bool} {xs : List Int} (h : ∀ x ∈ xs, p x = false) : kept p xs = xs := by unfold kept; rw [List.filter_eq_self]; intro x hx; simp [h x hx]
theorem Mod.setCells {b : Nat} : ∀ (vs : List Value) (o : Nat) (w : World), Mod (fun k => k = b) w (w.setCells b o vs)
  | [], _, w => Mod.refl _ w
  | v :: r, o, w => (Mod.setCell (F := fun k => k = b) w ⟨b, o, none⟩ v rfl).trans (Mod.setCells r (o + 1) _) (fun _ _ e => e) (fun _ _ e => e)
theorem rd_cleared {w : World} {base : Nat} {e : TypeId} {g n c I : Nat} {ys : List Int} {vs : List Value} (ho : w.ownsRow base e 1 (.slice (some ⟨g, 0, none⟩) n c) n (ys.map (Value.int .i64))) (hI : I ≤ n) :
    Rd (w.setCells g I vs) 1 (.slice (some ⟨g, 0, none⟩) I c) I ((ys.take I).map (Value.int .i64)) := by
  have hr := Rd.ofOwn ho
  have ht := hr.take hI
  obtain ⟨hl, a, c', he, h1, h2, h3, h4⟩ := ht
  cases he
  have hyl : ys.length = n := by have := ho.1; simpa using this
  refine ⟨by simp; omega, _, c, rfl, h1, h2, (fun h => by cases h), fun ad had => ?_⟩
  cases had
  refine ⟨fun _ => rfl, fun j u hj => ?_⟩
  have hjI : j < I := by
    rcases Nat.lt_or_ge j I with h | h
    · exact h
    · rw [List.getElem?_eq_none (by simp; omega)] at hj; cases hj
  rw [Addr.add_lit, World.cell?_setCells_out _ _ _ _ _ (fun _ _ => .inl (by show 0 + j < I; omega))]
  have := (h4 _ rfl).2 j u (by rw [← List.map_take]; simpa using hj)
  rwa [Addr.add_lit] at this
end Mile
namespace Go.Proofs.Ytgiojfihgdifbaa
open Go.RowKit Mile
set_option maxRecDepth 100000

set_option maxHeartbeats 4000000 in
theorem indexN_any (b2 b3 : Nat) (p : Int → Bool) (FB : Nat → Prop) (w : World) (a : Option Addr) (n c : Nat) (xs : List Int) (hn : xs.length = n) (hr : Rd w 1 (.slice a n c) n (xs.map (Value.int .i64))) (hb : n ≤ 1000000)
    (hf : ∀ W x, Mod FB w W → Calls Try.prog 71 #[.int .i64 x, .pointer (some ⟨b2, 0, none⟩), .pointer (some ⟨b3, 0, none⟩)] W fun e w' => e = .returned (.bool (p x)) ∧ Mod (fun _ => False) W w') :
    Calls Try.prog 82 #[.slice a n c, .func (.func 71) #[] #[.pointer (some ⟨b2, 0, none⟩), .pointer (some ⟨b3, 0, none⟩)]] w fun e w' => (∃ r : Int, e = .returned (.int .i64 r) ∧ ((r = -1 ∧ ∀ x ∈ xs, p x = false) ∨ ∃ k : Nat, r = k ∧ ∃ hk : k < xs.length, p (xs[k]'hk) = true ∧ ∀ x ∈ xs.take k, p x = false)) ∧ Mod (fun _ => False) w w' := by
  obtain ⟨iI, hiI, hzI, hsI, hbI⟩ := info_parts GR.infoI
  have HF := Lib.hid hf
  have HN := Lib.hid hn
  clear hf hn
  go_enter Try.func82, Try.ntmps82
  go_wp2_with fail
  go_loopw [8] (fun i wr => ∃ k : Nat, k ≤ n ∧ i = .int .i64 k ∧ Mod (fun _ => False) w wr ∧ ∀ x ∈ xs.take k, p x = false) (fun i _ => n - (intOf i).toNat)
  case atStart => exact ⟨0, by omega, rfl, Mod.refl _ _, fun x hx => by simp at hx⟩
  case round =>
    obtain ⟨k, hk, rfl, hm, hall⟩ := hrel
    obtain ⟨wo, hwo⟩ : ∃ x : World, x = wr := ⟨_, rfl⟩
    subst hwo
    have HM := Lib.hid hm
    have HA := Lib.hid hall
    clear hm hall
    by_cases hlt : k < n
    · have z0 : decide ((k : Int) < (n : Int)) = true := by simp; omega
      have hkl : k < xs.length := by rw [HN.out]; exact hlt
      obtain ⟨eb, eo, hpl, e0⟩ := rd1 (hr.keep HM.out (fun _ _ e => e)) k hkl
      have hix := fun wx => run_indexS (P := Try.prog) wx 22 3 iI 1 Try.underlying22 hiI hsI a n c k hlt (hr.some_ (by omega))
      rw [hpl] at hix
      obtain ⟨x, hx⟩ : ∃ x, xs[k] = x := ⟨_, rfl⟩
      rw [hx] at e0
      have HX := Lib.hid hx
      clear hx hpl
      obtain ⟨b, hpb⟩ : ∃ b, p x = b := ⟨_, rfl⟩
      have HP := Lib.hid hpb
      clear hpb
      go_wp2_with fail
      refine (HF.out _ x (HM.out.mono (fun _ _ e => e.elim))).mono ?_
      rintro e w2 ⟨rfl, hm2⟩
      rw [HP.out]
      have HM2 := Lib.hid (HM.out.of2 hm2)
      clear hm2 hix e0
      cases b with
      | true =>
        go_wp2_with fail
        go_ret
        exact ⟨⟨k, rfl, .inr ⟨k, rfl, hkl, by rw [HX.out]; exact HP.out, HA.out⟩⟩, HM2.out⟩
      | false =>
        go_wp2_with fail
        go_roundw
        case rel =>
          refine ⟨k + 1, hlt, by go_num, HM2.out, fun y hy => ?_⟩
          rw [List.take_succ_eq_append_getElem hkl] at hy
          rcases List.mem_append.1 hy with h | h
          · exact HA.out y h
          · rw [List.mem_singleton] at h; rw [h, HX.out]; exact HP.out
        case measure => simp [intOf]; omega
    · have z0 : decide ((k : Int) < (n : Int)) = false := by simp; omega
      go_wp2_with fail
      go_ret
      exact ⟨⟨-1, rfl, .inl ⟨rfl, fun x hx => HA.out x (by rw [List.take_of_length_le (by have := HN.out; omega)]; exact hx)⟩⟩, HM.out⟩

set_option maxHeartbeats 8000000 in
theorem deleteN_any (b2 b3 : Nat) (p : Int → Bool) (w : World) (base : Nat) (a : Option Addr) (n c : Nat) (xs : List Int) (hn : xs.length = n) (ho : w.ownsRow base 3 1 (.slice a n c) n (xs.map (Value.int .i64))) (hb : n ≤ 1000000)
    (hf : ∀ W x, Mod (fun k => (Value.slice a n c).ownBlock = some k) w W → Calls Try.prog 71 #[.int .i64 x, .pointer (some ⟨b2, 0, none⟩), .pointer (some ⟨b3, 0, none⟩)] W fun e w' => e = .returned (.bool (p x)) ∧ Mod (fun _ => False) W w') :
    Calls Try.prog 66 #[.slice a n c, .func (.func 71) #[] #[.pointer (some ⟨b2, 0, none⟩), .pointer (some ⟨b3, 0, none⟩)]] w fun e w' => (∃ v, e = .returned v ∧ IRow (kept p xs) v w' ∧ v.ownBlock = (Value.slice a n c).ownBlock) ∧ Mod (fun k => (Value.slice a n c).ownBlock = some k) w w' := by
  obtain ⟨iI, hiI, hzI, hsI, hbI⟩ := info_parts GR.infoI
  have HF := Lib.hid hf
  have HN := Lib.hid hn
  clear hf hn
  go_enter Try.func66, Try.ntmps66
  go_wp2_with fail
  refine (indexN_any b2 b3 p _ w a n c xs HN.out (Rd.ofOwn ho) hb HF.out).mono ?_
  rintro e w1 ⟨⟨r, rfl, hr⟩, hm⟩
  have HM := Lib.hid hm
  clear hm
  rcases hr with ⟨rfl, hall⟩ | ⟨k, rfl, hk, hpk, hall⟩
  · have HA := Lib.hid hall
    clear hall
    go_wp2_with fail
    go_ret
    refine ⟨⟨.slice a n c, rfl, ⟨a, c, ?_, ?_⟩, rfl⟩, HM.out.mono (fun _ _ e => e.elim)⟩
    · rw [kept_none HA.out, HN.out]
    · rw [kept_none HA.out, HN.out]; exact (Rd.ofOwn ho).keep HM.out (fun _ _ e => e)
  · have hkn : k < n := by rw [← HN.out]; exact hk
    obtain ⟨ob, c', hab, hlo, hlt⟩ := own_block ho (by omega)
    cases hab
    have hI0 := delI_start hk hpk hall
    have HI0 := Lib.hid hI0
    have hO := Lib.hid (Own.keep ho HM.out (fun _ _ e => e))
    clear hall hpk hI0
    have z0 : ((k : Int) == -1) = false := by rw [beq_eq_false_iff_ne]; omega
    have HOB : Hid (∀ k, (Value.slice (some ⟨ob, 0, none⟩) n c).ownBlock = some k ↔ k = ob) := Lib.hid fun k => by simp [Value.ownBlock]; omega
    go_wp2_with fail
    go_loopw [5, 6] (fun i j wr => ∃ I J : Nat, i = .int .i64 I ∧ j = .int .i64 J ∧ ∃ ys, DelI p xs ys I J ∧ World.ownsRow wr base 3 1 (.slice (some ⟨ob, 0, none⟩) n c) n (ys.map (Value.int .i64)) ∧ Mod (fun k => k = ob) w wr) (fun _ j _ => n - (intOf j).toNat)
    case atStart => exact ⟨k, k + 1, rfl, by go_num, xs, HI0.out, hO.out, HM.out.mono (fun _ _ e => e.elim)⟩
    case round =>
      obtain ⟨I, J, rfl, rfl, ys, hI, hOw, hm⟩ := hrel
      obtain ⟨wo, hwo⟩ : ∃ x : World, x = wr := ⟨_, rfl⟩
      subst hwo
      have hJ : J ≤ n := by have := hI.2.1; have := HN.out; omega
      have hIJ : I < J := hI.2.2.1
      have hyl : ys.length = n := by rw [hI.1]; exact HN.out
      have HI := Lib.hid hI
      have HO := Lib.hid hOw
      have HMW := Lib.hid hm
      have HYL := Lib.hid hyl
      clear hI hOw hm hyl hO HI0
      by_cases hlt2 : J < n
      · have z1 : decide ((J : Int) < (n : Int)) = true := by simp; omega
        obtain ⟨hy, he⟩ := delI_at HI.out (by rw [HN.out]; exact hlt2)
        obtain ⟨eb, eo, hpl, e0⟩ := rd1 (Rd.ofOwn HO.out) J hy
        have hix := fun wx => run_indexS (P := Try.prog) wx 22 3 iI 1 Try.underlying22 hiI hsI (some ⟨ob, 0, none⟩) n c J hlt2 (by simp)
        rw [hpl] at hix
        rw [he] at e0
        obtain ⟨x, hx⟩ : ∃ x, xs[J]'(by rw [HN.out]; exact hlt2) = x := ⟨_, rfl⟩
        rw [hx] at e0
        have HX := Lib.hid hx
        clear hx hpl he hy
        obtain ⟨b, hpb⟩ : ∃ b, p x = b := ⟨_, rfl⟩
        have HP := Lib.hid hpb
        clear hpb
        go_wp2_with fail
        refine (HF.out _ x (HMW.out.mono (fun i _ e => (HOB.out i).2 e))).mono ?_
        rintro e w2 ⟨rfl, hm2⟩
        rw [HP.out]
        have HM2 : Hid (Mod (fun k => k = ob) w w2) := Lib.hid (HMW.out.trans hm2 (fun _ _ e => e) (fun _ _ e => e.elim))
        have HO2 := Lib.hid (Own.keep HO.out hm2 (fun _ _ e => e))
        clear hm2 hix e0
        cases b with
        | true =>
          go_wp2_with fail
          go_roundw
          case rel => exact ⟨I, J + 1, rfl, by go_num, ys, delI_skip HI.out (by rw [HN.out]; exact hlt2) (by rw [HX.out]; exact HP.out), HO2.out, HM2.out⟩
          case measure => simp [intOf]; omega
        | false =>
          have hIn : I < n := by omega
          have hix2 : ∀ wx, (Instr.indexAt 22 (.slice (some ⟨ob, 0, none⟩) n c) (.int .i64 (I : Int))).run Try.prog wx = .ok (.pointer (some ⟨ob, I, none⟩)) wx := fun wx => by
            have h := run_indexS (P := Try.prog) wx 22 3 iI 1 Try.underlying22 hiI hsI (some ⟨ob, 0, none⟩) n c I hIn (by simp)
            have hp := (show elemA (some ⟨ob, 0, none⟩) I 1 = ⟨ob, I, none⟩ by unfold elemA; rw [Option.getD_some, Addr.add_lit, Nat.zero_add, Nat.mul_one])
            rw [hp] at h; exact h
          have hroom := Room.ofOwn HO2.out I (by omega)
          obtain ⟨v0, q0⟩ := hroom.cell
          have q1 := hroom.free
          have hst := (HO2.out.stored I (.int .i64 x)).1
          rw [← List.map_set] at hst
          have HST := Lib.hid hst
          clear hst hroom
          go_wp2_with fail
          go_roundw
          case rel =>
            refine ⟨I + 1, J + 1, by go_num, by go_num, ys.set I x, ?_, HST.out, HM2.out.thenSet _ _ (fun _ => rfl)⟩
            have h := delI_keep HI.out (by rw [HN.out]; exact hlt2) (by rw [HX.out]; exact HP.out)
            rw [HX.out] at h; exact h
          case measure => simp [intOf]; omega
      · obtain rfl : J = n := by omega
        have z1 : decide ((J : Int) < (J : Int)) = false := by simp
        have hE := delI_end (show DelI p xs ys I xs.length by rw [HN.out]; exact HI.out)
        obtain ⟨h1, h2, h3⟩ := hE
        have h4 : I < J := by rw [← HN.out]; exact h3
        have H1 := Lib.hid h1
        have H2 := Lib.hid h2
        have hcap : J ≤ c := by obtain ⟨_, h | ⟨g, cap, cur, he, _, _, hc, _⟩⟩ := HO.out; exact absurd h.1 (by simp); cases he; exact hc
        have hsl := fun wx => run_dropS (P := Try.prog) wx 22 3 iI 1 Try.underlying22 hiI hsI (some ⟨ob, 0, none⟩) J c I (by omega)
        have hdr : dropA (some ⟨ob, 0, none⟩) c I 1 = some ⟨ob, I, none⟩ := by unfold dropA; rw [if_neg (by omega)]; show some (Addr.add _ _) = _; rw [Addr.add_lit, Nat.zero_add, Nat.mul_one]
        rw [hdr] at hsl
        have hzv : ∀ w : World, (zeroValue 3).run Try.prog w = .ok (.int .i64 0) w := fun w => by kernel_rfl
        have hcl := fun ty => Lib.run_clear_slice (P := Try.prog) wo 22 3 ty (.int .i64 0) Try.underlying22 hzv rfl rfl ob I (J - I) (c - I) (by omega) (fun j hj => by obtain ⟨v, hv⟩ := (Room.ofOwn HO.out (I + j) (by omega)).cell; rw [hv]; rfl) (fun j hj => (Room.ofOwn HO.out (I + j) (by omega)).free)
        have htk := fun wx => run_takeS (P := Try.prog) wx 22 3 iI Try.underlying22 hiI (some ⟨ob, 0, none⟩) J c I (by omega)
        clear h1 h2 h3 hdr hzv
        go_wp2_with fail
        go_ret
        refine ⟨⟨.slice (some ⟨ob, 0, none⟩) I c, rfl, ⟨some ⟨ob, 0, none⟩, c, by rw [← H2.out], ?_⟩, rfl⟩, (HMW.out.trans (Mod.setCells _ _ _) (fun i _ e => (HOB.out i).2 e) (fun i _ e => (HOB.out i).2 e))⟩
        rw [← H2.out, ← H1.out]
        exact rd_cleared HO.out (by omega)

set_option maxHeartbeats 4000000 in
theorem indexP_any (b2 b3 : Nat) (p : Int → Bool) (FB : Nat → Prop) (w : World) (a : Option Addr) (n c : Nat) (xs : List Int) (hn : xs.length = n) (hr : Rd w 1 (.slice a n c) n (xs.map (Value.int .i64))) (hb : n ≤ 1000000)
    (hf : ∀ W x, Mod FB w W → Calls Try.prog 67 #[.int .i64 x, .pointer (some ⟨b2, 0, none⟩), .pointer (some ⟨b3, 0, none⟩)] W fun e w' => e = .returned (.bool (p x)) ∧ Mod (fun _ => False) W w') :
    Calls Try.prog 82 #[.slice a n c, .func (.func 67) #[] #[.pointer (some ⟨b2, 0, none⟩), .pointer (some ⟨b3, 0, none⟩)]] w fun e w' => (∃ r : Int, e = .returned (.int .i64 r) ∧ ((r = -1 ∧ ∀ x ∈ xs, p x = false) ∨ ∃ k : Nat, r = k ∧ ∃ hk : k < xs.length, p (xs[k]'hk) = true ∧ ∀ x ∈ xs.take k, p x = false)) ∧ Mod (fun _ => False) w w' := by
  obtain ⟨iI, hiI, hzI, hsI, hbI⟩ := info_parts GR.infoI
  have HF := Lib.hid hf
  have HN := Lib.hid hn
  clear hf hn
  go_enter Try.func82, Try.ntmps82
  go_wp2_with fail
  go_loopw [8] (fun i wr => ∃ k : Nat, k ≤ n ∧ i = .int .i64 k ∧ Mod (fun _ => False) w wr ∧ ∀ x ∈ xs.take k, p x = false) (fun i _ => n - (intOf i).toNat)
  case atStart => exact ⟨0, by omega, rfl, Mod.refl _ _, fun x hx => by simp at hx⟩
  case round =>
    obtain ⟨k, hk, rfl, hm, hall⟩ := hrel
    obtain ⟨wo, hwo⟩ : ∃ x : World, x = wr := ⟨_, rfl⟩
    subst hwo
    have HM := Lib.hid hm
    have HA := Lib.hid hall
    clear hm hall
    by_cases hlt : k < n
    · have z0 : decide ((k : Int) < (n : Int)) = true := by simp; omega
      have hkl : k < xs.length := by rw [HN.out]; exact hlt
      obtain ⟨eb, eo, hpl, e0⟩ := rd1 (hr.keep HM.out (fun _ _ e => e)) k hkl
      have hix := fun wx => run_indexS (P := Try.prog) wx 22 3 iI 1 Try.underlying22 hiI hsI a n c k hlt (hr.some_ (by omega))
      rw [hpl] at hix
      obtain ⟨x, hx⟩ : ∃ x, xs[k] = x := ⟨_, rfl⟩
      rw [hx] at e0
      have HX := Lib.hid hx
      clear hx hpl
      obtain ⟨b, hpb⟩ : ∃ b, p x = b := ⟨_, rfl⟩
      have HP := Lib.hid hpb
      clear hpb
      go_wp2_with fail
      refine (HF.out _ x (HM.out.mono (fun _ _ e => e.elim))).mono ?_
      rintro e w2 ⟨rfl, hm2⟩
      rw [HP.out]
      have HM2 := Lib.hid (HM.out.of2 hm2)
      clear hm2 hix e0
      cases b with
      | true =>
        go_wp2_with fail
        go_ret
        exact ⟨⟨k, rfl, .inr ⟨k, rfl, hkl, by rw [HX.out]; exact HP.out, HA.out⟩⟩, HM2.out⟩
      | false =>
        go_wp2_with fail
        go_roundw
        case rel =>
          refine ⟨k + 1, hlt, by go_num, HM2.out, fun y hy => ?_⟩
          rw [List.take_succ_eq_append_getElem hkl] at hy
          rcases List.mem_append.1 hy with h | h
          · exact HA.out y h
          · rw [List.mem_singleton] at h; rw [h, HX.out]; exact HP.out
        case measure => simp [intOf]; omega
    · have z0 : decide ((k : Int) < (n : Int)) = false := by simp; omega
      go_wp2_with fail
      go_ret
      exact ⟨⟨-1, rfl, .inl ⟨rfl, fun x hx => HA.out x (by rw [List.take_of_length_le (by have := HN.out; omega)]; exact hx)⟩⟩, HM.out⟩

set_option maxHeartbeats 8000000 in
theorem deleteP_any (b2 b3 : Nat) (p : Int → Bool) (w : World) (base : Nat) (a : Option Addr) (n c : Nat) (xs : List Int) (hn : xs.length = n) (ho : w.ownsRow base 3 1 (.slice a n c) n (xs.map (Value.int .i64))) (hb : n ≤ 1000000)
    (hf : ∀ W x, Mod (fun k => (Value.slice a n c).ownBlock = some k) w W → Calls Try.prog 67 #[.int .i64 x, .pointer (some ⟨b2, 0, none⟩), .pointer (some ⟨b3, 0, none⟩)] W fun e w' => e = .returned (.bool (p x)) ∧ Mod (fun _ => False) W w') :
    Calls Try.prog 66 #[.slice a n c, .func (.func 67) #[] #[.pointer (some ⟨b2, 0, none⟩), .pointer (some ⟨b3, 0, none⟩)]] w fun e w' => (∃ v, e = .returned v ∧ IRow (kept p xs) v w' ∧ v.ownBlock = (Value.slice a n c).ownBlock) ∧ Mod (fun k => (Value.slice a n c).ownBlock = some k) w w' := by
  obtain ⟨iI, hiI, hzI, hsI, hbI⟩ := info_parts GR.infoI
  have HF := Lib.hid hf
  have HN := Lib.hid hn
  clear hf hn
  go_enter Try.func66, Try.ntmps66
  go_wp2_with fail
  refine (indexP_any b2 b3 p _ w a n c xs HN.out (Rd.ofOwn ho) hb HF.out).mono ?_
  rintro e w1 ⟨⟨r, rfl, hr⟩, hm⟩
  have HM := Lib.hid hm
  clear hm
  rcases hr with ⟨rfl, hall⟩ | ⟨k, rfl, hk, hpk, hall⟩
  · have HA := Lib.hid hall
    clear hall
    go_wp2_with fail
    go_ret
    refine ⟨⟨.slice a n c, rfl, ⟨a, c, ?_, ?_⟩, rfl⟩, HM.out.mono (fun _ _ e => e.elim)⟩
    · rw [kept_none HA.out, HN.out]
    · rw [kept_none HA.out, HN.out]; exact (Rd.ofOwn ho).keep HM.out (fun _ _ e => e)
  · have hkn : k < n := by rw [← HN.out]; exact hk
    obtain ⟨ob, c', hab, hlo, hlt⟩ := own_block ho (by omega)
    cases hab
    have hI0 := delI_start hk hpk hall
    have HI0 := Lib.hid hI0
    have hO := Lib.hid (Own.keep ho HM.out (fun _ _ e => e))
    clear hall hpk hI0
    have z0 : ((k : Int) == -1) = false := by rw [beq_eq_false_iff_ne]; omega
    have HOB : Hid (∀ k, (Value.slice (some ⟨ob, 0, none⟩) n c).ownBlock = some k ↔ k = ob) := Lib.hid fun k => by simp [Value.ownBlock]; omega
    go_wp2_with fail
    go_loopw [5, 6] (fun i j wr => ∃ I J : Nat, i = .int .i64 I ∧ j = .int .i64 J ∧ ∃ ys, DelI p xs ys I J ∧ World.ownsRow wr base 3 1 (.slice (some ⟨ob, 0, none⟩) n c) n (ys.map (Value.int .i64)) ∧ Mod (fun k => k = ob) w wr) (fun _ j _ => n - (intOf j).toNat)
    case atStart => exact ⟨k, k + 1, rfl, by go_num, xs, HI0.out, hO.out, HM.out.mono (fun _ _ e => e.elim)⟩
    case round =>
      obtain ⟨I, J, rfl, rfl, ys, hI, hOw, hm⟩ := hrel
      obtain ⟨wo, hwo⟩ : ∃ x : World, x = wr := ⟨_, rfl⟩
      subst hwo
      have hJ : J ≤ n := by have := hI.2.1; have := HN.out; omega
      have hIJ : I < J := hI.2.2.1
      have hyl : ys.length = n := by rw [hI.1]; exact HN.out
      have HI := Lib.hid hI
      have HO := Lib.hid hOw
      have HMW := Lib.hid hm
      have HYL := Lib.hid hyl
      clear hI hOw hm hyl hO HI0
      by_cases hlt2 : J < n
      · have z1 : decide ((J : Int) < (n : Int)) = true := by simp; omega
        obtain ⟨hy, he⟩ := delI_at HI.out (by rw [HN.out]; exact hlt2)
        obtain ⟨eb, eo, hpl, e0⟩ := rd1 (Rd.ofOwn HO.out) J hy
        have hix := fun wx => run_indexS (P := Try.prog) wx 22 3 iI 1 Try.underlying22 hiI hsI (some ⟨ob, 0, none⟩) n c J hlt2 (by simp)
        rw [hpl] at hix
        rw [he] at e0
        obtain ⟨x, hx⟩ : ∃ x, xs[J]'(by rw [HN.out]; exact hlt2) = x := ⟨_, rfl⟩
        rw [hx] at e0
        have HX := Lib.hid hx
        clear hx hpl he hy
        obtain ⟨b, hpb⟩ : ∃ b, p x = b := ⟨_, rfl⟩
        have HP := Lib.hid hpb
        clear hpb
        go_wp2_with fail
        refine (HF.out _ x (HMW.out.mono (fun i _ e => (HOB.out i).2 e))).mono ?_
        rintro e w2 ⟨rfl, hm2⟩
        rw [HP.out]
        have HM2 : Hid (Mod (fun k => k = ob) w w2) := Lib.hid (HMW.out.trans hm2 (fun _ _ e => e) (fun _ _ e => e.elim))
        have HO2 := Lib.hid (Own.keep HO.out hm2 (fun _ _ e => e))
        clear hm2 hix e0
        cases b with
        | true =>
          go_wp2_with fail
          go_roundw
          case rel => exact ⟨I, J + 1, rfl, by go_num, ys, delI_skip HI.out (by rw [HN.out]; exact hlt2) (by rw [HX.out]; exact HP.out), HO2.out, HM2.out⟩
          case measure => simp [intOf]; omega
        | false =>
          have hIn : I < n := by omega
          have hix2 : ∀ wx, (Instr.indexAt 22 (.slice (some ⟨ob, 0, none⟩) n c) (.int .i64 (I : Int))).run Try.prog wx = .ok (.pointer (some ⟨ob, I, none⟩)) wx := fun wx => by
            have h := run_indexS (P := Try.prog) wx 22 3 iI 1 Try.underlying22 hiI hsI (some ⟨ob, 0, none⟩) n c I hIn (by simp)
            have hp := (show elemA (some ⟨ob, 0, none⟩) I 1 = ⟨ob, I, none⟩ by unfold elemA; rw [Option.getD_some, Addr.add_lit, Nat.zero_add, Nat.mul_one])
            rw [hp] at h; exact h
          have hroom := Room.ofOwn HO2.out I (by omega)
          obtain ⟨v0, q0⟩ := hroom.cell
          have q1 := hroom.free
          have hst := (HO2.out.stored I (.int .i64 x)).1
          rw [← List.map_set] at hst
          have HST := Lib.hid hst
          clear hst hroom
          go_wp2_with fail
          go_roundw
          case rel =>
            refine ⟨I + 1, J + 1, by go_num, by go_num, ys.set I x, ?_, HST.out, HM2.out.thenSet _ _ (fun _ => rfl)⟩
            have h := delI_keep HI.out (by rw [HN.out]; exact hlt2) (by rw [HX.out]; exact HP.out)
            rw [HX.out] at h; exact h
          case measure => simp [intOf]; omega
      · obtain rfl : J = n := by omega
        have z1 : decide ((J : Int) < (J : Int)) = false := by simp
        have hE := delI_end (show DelI p xs ys I xs.length by rw [HN.out]; exact HI.out)
        obtain ⟨h1, h2, h3⟩ := hE
        have h4 : I < J := by rw [← HN.out]; exact h3
        have H1 := Lib.hid h1
        have H2 := Lib.hid h2
        have hcap : J ≤ c := by obtain ⟨_, h | ⟨g, cap, cur, he, _, _, hc, _⟩⟩ := HO.out; exact absurd h.1 (by simp); cases he; exact hc
        have hsl := fun wx => run_dropS (P := Try.prog) wx 22 3 iI 1 Try.underlying22 hiI hsI (some ⟨ob, 0, none⟩) J c I (by omega)
        have hdr : dropA (some ⟨ob, 0, none⟩) c I 1 = some ⟨ob, I, none⟩ := by unfold dropA; rw [if_neg (by omega)]; show some (Addr.add _ _) = _; rw [Addr.add_lit, Nat.zero_add, Nat.mul_one]
        rw [hdr] at hsl
        have hzv : ∀ w : World, (zeroValue 3).run Try.prog w = .ok (.int .i64 0) w := fun w => by kernel_rfl
        have hcl := fun ty => Lib.run_clear_slice (P := Try.prog) wo 22 3 ty (.int .i64 0) Try.underlying22 hzv rfl rfl ob I (J - I) (c - I) (by omega) (fun j hj => by obtain ⟨v, hv⟩ := (Room.ofOwn HO.out (I + j) (by omega)).cell; rw [hv]; rfl) (fun j hj => (Room.ofOwn HO.out (I + j) (by omega)).free)
        have htk := fun wx => run_takeS (P := Try.prog) wx 22 3 iI Try.underlying22 hiI (some ⟨ob, 0, none⟩) J c I (by omega)
        clear h1 h2 h3 hdr hzv
        go_wp2_with fail
        go_ret
        refine ⟨⟨.slice (some ⟨ob, 0, none⟩) I c, rfl, ⟨some ⟨ob, 0, none⟩, c, by rw [← H2.out], ?_⟩, rfl⟩, (HMW.out.trans (Mod.setCells _ _ _) (fun i _ e => (HOB.out i).2 e) (fun i _ e => (HOB.out i).2 e))⟩
        rw [← H2.out, ← H1.out]
        exact rd_cleared HO.out (by omega)
end Go.Proofs.Ytgiojfihgdifbaa
