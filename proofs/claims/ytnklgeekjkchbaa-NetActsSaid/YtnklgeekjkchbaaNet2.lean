/- Nets: rows of numbers that rise: with, without, by contract. -/
import Derived.Test.YtnklgeekjkchbaaInsI
import Derived.Test.YtnklgeekjkchbaaDelI
import Derived.Test.YtnklgeekjkchbaaNet1
namespace Mile
open Go Go.RowKit
theorem riseI_at {R : List Int} (h : RiseI R) {i j : Nat} (hj : j < R.length) (hij : i < j) : R[i]'(by omega) < R[j] := List.pairwise_iff_getElem.1 h i j (by omega) hj hij
theorem posI_of {R : List Int} {x : Int} {i : Nat} (hi : i ≤ R.length) (h1 : ∀ t (ht : t < R.length), t < i → R[t] < x) (h2 : ∀ t (ht : t < R.length), i ≤ t → x ≤ R[t]) : posI R x = i := by
  unfold posI ltI
  have e : R = R.take i ++ R.drop i := (List.take_append_drop i R).symm
  rw [e, List.filter_append, List.length_append]
  have e1 : (R.take i).filter (fun b => decide (b < x)) = R.take i := List.filter_eq_self.2 fun b hb => by
    obtain ⟨t, ht, rfl⟩ := List.getElem_of_mem hb
    rw [List.length_take] at ht
    rw [List.getElem_take]
    simpa using h1 t (by omega) (by omega)
  have e2 : (R.drop i).filter (fun b => decide (b < x)) = [] := List.filter_eq_nil_iff.2 fun b hb => by
    obtain ⟨t, ht, rfl⟩ := List.getElem_of_mem hb
    rw [List.length_drop] at ht
    rw [List.getElem_drop]
    have := h2 (i + t) (by omega) (by omega)
    simp; omega
  rw [e1, e2, List.length_take]
  simp; omega
end Mile
namespace Go.Proofs.Ytnklgeekjkchbaa
open Go.RowKit Mile
set_option maxRecDepth 100000
theorem nt_less (x y : Int) (w : World) : Calls Try.prog 67 #[.int .i64 x, .int .i64 y] w fun e w' => e = .returned (.bool (decide (x < y))) ∧ w = w' := by
  go_enter Try.func67, Try.ntmps67
  go_wp2_with (go_at_call 65; refine (nt_isNaN _ _).mono ?_; rintro e w' ⟨rfl, rfl⟩)
  go_ret
  exact ⟨rfl, rfl⟩
theorem nt_isNaN2 (x : Int) (w : World) : Calls Try.prog 68 #[.int .i64 x] w fun e w' => e = .returned (.bool false) ∧ w = w' := by
  go_enter Try.func68, Try.ntmps68
  go_wp2_with fail
  go_ret
  exact ⟨by simp, rfl⟩
set_option maxHeartbeats 4000000 in
theorem nt_searchI (w : World) (a : Option Addr) (n c : Nat) (R : List Int) (hn : R.length = n) (hr : Rd w 1 (.slice a n c) n (R.map (Value.int .i64))) (hs : RiseI R) (hb : n ≤ 100000) (x : Int) :
    Calls Try.prog 58 #[.slice a n c, .int .i64 x] w fun e w' => (∃ b, e = .returned (.tuple #[.int .i64 (posI R x : Int), .bool b])) ∧ Mod (fun _ => False) w w' := by
  obtain ⟨iI, hiI, hzI, hsI, hbI⟩ := info_parts Nt.infoI
  have HN := Lib.hid hn
  have HS := Lib.hid hs
  obtain ⟨ps, hps⟩ : ∃ r, posI R x = r := ⟨_, rfl⟩
  rw [hps]
  have HPS := Lib.hid hps
  clear hn hs hps
  go_enter Try.func58, Try.ntmps58
  go_wp2_with fail
  go_loopw [7, 8, 9] (fun vi vj _ wr => ∃ i j : Nat, i ≤ j ∧ j ≤ n ∧ vi = .int .i64 i ∧ vj = .int .i64 j ∧ Mod (fun _ => False) w wr ∧ (∀ t (ht : t < R.length), t < i → R[t] < x) ∧ (∀ t (ht : t < R.length), j ≤ t → x ≤ R[t])) (fun vi vj _ _ => (intOf vj - intOf vi).toNat)
  case atStart => exact ⟨0, n, by omega, Nat.le_refl _, rfl, rfl, Mod.refl _ _, fun t _ h => by omega, fun t ht h => by rw [HN.out] at ht; omega⟩
  case round =>
    obtain ⟨i, j, hij, hjn, rfl, rfl, hM, hlo, hhi⟩ := hrel
    have HLO := Lib.hid hlo
    have HHI := Lib.hid hhi
    clear hlo hhi
    by_cases hlt : i < j
    · obtain ⟨h, hh⟩ : ∃ h, (i + j) / 2 = h := ⟨_, rfl⟩
      have hh1 : i ≤ h := by omega
      have hh2 : h < j := by omega
      have hhi : ((i : Int) + (j : Int)) / 2 = (h : Int) := by omega
      have hhl : h < R.length := by rw [HN.out]; omega
      obtain ⟨b, o, hpl, e0⟩ := rd1 (hr.keepA hM (fun _ _ e => e.elim)) h hhl
      have hix := fun wx => run_indexS (P := Try.prog) wx 56 3 iI 1 Try.underlying56 hiI hsI a n c h (by omega) (hr.some_ (by omega))
      rw [hpl] at hix
      obtain ⟨y1, hy1⟩ : ∃ Y, R[h] = Y := ⟨_, rfl⟩
      rw [hy1] at e0
      have HY := Lib.hid hy1
      have HM := Lib.hid hM
      clear hy1 hpl hh hM
      go_wp2_with fail
      refine (nt_less y1 x _).mono ?_
      rintro e w1 ⟨rfl, rfl⟩
      clear e0 hix
      by_cases hc : y1 < x
      · have hcm : decide (y1 < x) = true := by simpa using hc
        rw [hcm]
        have HC := Lib.hid hc
        clear hcm hc
        go_wp2_with fail
        go_roundw
        case rel =>
          refine ⟨h + 1, j, by omega, hjn, by go_num, rfl, HM.out, fun t ht htj => ?_, HHI.out⟩
          by_cases e : t = h
          · subst e; rw [HY.out]; exact HC.out
          · have := riseI_at HS.out hhl (show t < h by omega)
            rw [HY.out] at this
            have := HC.out; omega
        case measure => simp [intOf]; omega
      · have hcm : decide (y1 < x) = false := by simpa using hc
        rw [hcm]
        have HC := Lib.hid hc
        clear hcm hc
        go_wp2_with fail
        go_roundw
        case rel =>
          refine ⟨i, h, hh1, by omega, rfl, rfl, HM.out, HLO.out, fun t ht htj => ?_⟩
          by_cases e : t = h
          · subst e; rw [HY.out]; have := HC.out; omega
          · have := riseI_at HS.out ht (show h < t by omega)
            rw [HY.out] at this
            have := HC.out; omega
        case measure => simp [intOf]; omega
    · obtain rfl : i = j := by omega
      have hpi : ps = i := by rw [← HPS.out]; exact posI_of (by rw [HN.out]; exact hjn) HLO.out HHI.out
      subst hpi
      by_cases hin : ps < n
      · have hil : ps < R.length := by rw [HN.out]; exact hin
        obtain ⟨b, o, hpl, e0⟩ := rd1 (hr.keepA hM (fun _ _ e => e.elim)) ps hil
        have hix := fun wx => run_indexS (P := Try.prog) wx 56 3 iI 1 Try.underlying56 hiI hsI a n c ps hin (hr.some_ (by omega))
        rw [hpl] at hix
        obtain ⟨y1, hy1⟩ : ∃ Y, R[ps] = Y := ⟨_, rfl⟩
        rw [hy1] at e0
        have HM := Lib.hid hM
        clear hy1 hpl hM
        have z0 : decide ((ps : Int) < (n : Int)) = true := by simp; omega
        by_cases hq : y1 = x
        · have z1 : (y1 == x) = true := by simpa using hq
          clear hq
          go_wp2_with fail
          go_ret2
          exact ⟨⟨_, rfl⟩, HM.out⟩
        · have z1 : (y1 == x) = false := by simpa using hq
          clear hq
          go_wp2_with (go_at_call 68; refine (nt_isNaN2 _ _).mono ?_; rintro e w' ⟨rfl, rfl⟩)
          go_ret2
          exact ⟨⟨_, rfl⟩, HM.out⟩
      · have HM := Lib.hid hM
        have z0 : decide ((ps : Int) < (n : Int)) = false := by simp; omega
        clear hM
        go_wp2_with fail
        go_ret2
        exact ⟨⟨_, rfl⟩, HM.out⟩
theorem int_oneN (R : List Int) : ∀ u ∈ R.map (Value.int .i64), u.oneCell' = true := by
  intro u hu; obtain ⟨_, _, rfl⟩ := List.mem_map.1 hu; rfl
/-- A row of numbers behind a call: which block it lies in. -/
def RowIP (a : Option Addr) (n c : Nat) (R' : List Int) (w : World) (e : Ending) (w' : World) : Prop :=
  ∃ a' c', e = .returned (.slice a' R'.length c') ∧ w'.ownsRow 0 3 1 (.slice a' R'.length c') R'.length (R'.map (Value.int .i64)) ∧ Mod (fun k => (Value.slice a n c).ownBlock = some k) w w' ∧ ∀ k, (Value.slice a' R'.length c').ownBlock = some k → (Value.slice a n c).ownBlock = some k ∨ w.heap.size ≤ k
theorem newI_len {R : List Int} (h : RiseI R) {x : Int} (hm : x ∉ R) : (newI R x).length = R.length + 1 := by
  rw [← newI_insert h hm, List.length_append, List.length_cons, List.length_take, List.length_drop]
  have : posI R x ≤ R.length := List.length_filter_le _ _
  omega
theorem nt_with (w : World) (a : Option Addr) (n c : Nat) (R : List Int) (hn : R.length = n) (ho : w.ownsRow 0 3 1 (.slice a n c) n (R.map (Value.int .i64))) (hs : RiseI R) (hb : n ≤ 100000) (x : Int) (hx : x ∉ R) :
    Calls Try.prog 41 #[.slice a n c, .int .i64 x] w fun e w' => RowIP a n c (newI R x) w e w' := by
  have HSE := Lib.hid (nt_searchI w a n c R hn (Rd.ofOwn ho) hs hb x)
  have HO := Lib.hid ho
  have HS := Lib.hid hs
  have HX := Lib.hid hx
  have hpos : posI R x ≤ n := by rw [← hn]; exact List.length_filter_le _ _
  have HN := Lib.hid hn
  clear hn ho hs hx
  unfold RowIP
  rw [newI_len HS.out HX.out, HN.out]
  obtain ⟨ps, hps⟩ : ∃ r, posI R x = r := ⟨_, rfl⟩
  rw [hps] at HSE hpos
  have HPS := Lib.hid hps
  clear hps
  go_enter Try.func41, Try.ntmps41
  go_wp2_with fail
  refine HSE.out.mono ?_
  rintro e w1 ⟨⟨b, rfl⟩, hm⟩
  have HM := Lib.hid hm
  clear hm HSE
  go_wp2_with fail
  have hlo : ∀ k, (Value.slice a n c).ownBlock = some k → k < w1.heap.size := fun k hk => Nat.lt_of_lt_of_le (Own.lt HO.out hk) HM.out.size
  have hal : Mod (fun _ => False) w1 (w1.alloc (.cells #[.int .i64 x] 3)) := Mod.alloc _ _ _
  refine (insI_any (w1.alloc (.cells #[.int .i64 x] 3)) a n c ps (R.map (Value.int .i64)) (int_oneN R) (Own.keep (Own.keep HO.out HM.out (fun _ _ e => e)) hal (fun _ _ e => e)) hb w1.heap.size [.int .i64 x] (Rd.lit 3 [.int .i64 x] (0, 0) _ 1 rfl rfl (by decide)) (Blk.new w1 3 [.int .i64 x]) (by intro u hu; simp at hu; rw [hu]; rfl) (fun e => by have := hlo _ e; omega) hpos).mono ?_
  rintro e w2 ⟨a', c', rfl, ho2, hm2, hn2⟩
  have hres : (R.map (Value.int .i64)).take (ps * 1) ++ [.int .i64 x] ++ (R.map (Value.int .i64)).drop (ps * 1) = (newI R x).map (Value.int .i64) := by
    rw [← newI_insert HS.out HX.out, HPS.out, Nat.mul_one, List.map_append, List.map_cons, List.map_take, List.map_drop, List.append_assoc]; rfl
  rw [hres] at ho2
  have HO2 := Lib.hid ho2
  have HM2 := Lib.hid hm2
  have HN2 := Lib.hid hn2
  have HLO := Lib.hid hlo
  clear hres ho2 hm2 hn2 hal hlo
  go_wp2_with fail
  go_ret
  refine ⟨a', c', rfl, HO2.out, (HM.out.trans (Mod.alloc (fun _ => False) w1 _) (H := fun _ => False) (fun _ _ e => e) (fun _ _ e => e)).trans HM2.out (fun _ _ e => e.elim) (fun _ _ e => e), fun k hk => (HN2.out k hk).imp id (fun e => ?_)⟩
  have := HM.out.size
  simp at e; omega
theorem nt_without (w : World) (a : Option Addr) (n c : Nat) (R : List Int) (hn : R.length = n) (ho : w.ownsRow 0 3 1 (.slice a n c) n (R.map (Value.int .i64))) (hs : RiseI R) (hb : n ≤ 100000) (x : Int) (hx : x ∈ R) :
    Calls Try.prog 43 #[.slice a n c, .int .i64 x] w fun e w' => RowIP a n c (delI R x) w e w' := by
  have HSE := Lib.hid (nt_searchI w a n c R hn (Rd.ofOwn ho) hs hb x)
  obtain ⟨hp1, hp2⟩ := posI_at hs hx
  have hcut := delI_cut hs hx
  have hl : (delI R x).length = n - 1 := by
    rw [← hcut, List.length_append, List.length_take, List.length_drop]; omega
  unfold RowIP
  rw [hl]
  obtain ⟨ps, hps⟩ : ∃ r, posI R x = r := ⟨_, rfl⟩
  rw [hps] at HSE hp1 hcut
  obtain ⟨m, hm⟩ : ∃ m, n - 1 = m := ⟨_, rfl⟩
  rw [hm]
  have hpn : ps < n := by omega
  have hmn : m + 1 ≤ n ∧ n ≤ m + 1 := by omega
  have HO := Lib.hid ho
  have HC := Lib.hid hcut
  have hw1 : IntKind.i64.wrap ((ps : Int) + 1) = (ps : Int) + 1 := IntWalk.i64_in _ (by omega)
  clear hn ho hs hx hp1 hp2 hcut hl hps hm
  go_enter Try.func43, Try.ntmps43
  go_wp2_with fail
  refine HSE.out.mono ?_
  rintro e w1 ⟨⟨b, rfl⟩, hm⟩
  have HM := Lib.hid hm
  clear hm HSE
  go_wp2_with fail
  refine (delI_any w1 a n c ps (R.map (Value.int .i64)) (int_oneN R) (Own.keep HO.out HM.out (fun _ _ e => e)) hpn hb m (by omega)).mono ?_
  rintro e w2 ⟨rfl, ho2, hm2⟩
  have hres : (R.map (Value.int .i64)).take (ps * 1) ++ (R.map (Value.int .i64)).drop ((ps + 1) * 1) = (delI R x).map (Value.int .i64) := by
    rw [← HC.out, Nat.mul_one, Nat.mul_one, List.map_append, List.map_take, List.map_drop]
  rw [hres] at ho2
  have HO2 := Lib.hid ho2
  have HM2 := Lib.hid hm2
  clear hres ho2 hm2
  go_wp2_with fail
  go_ret
  exact ⟨a, c, rfl, HO2.out, HM.out.trans HM2.out (fun _ _ e => e.elim) (fun _ _ e => e), fun k hk => .inl (by rw [← hk]; exact own_slice a n c m c)⟩
end Go.Proofs.Ytnklgeekjkchbaa
