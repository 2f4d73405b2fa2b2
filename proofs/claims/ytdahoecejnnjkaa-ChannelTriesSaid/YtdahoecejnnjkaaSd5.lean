/- sender's Acked, Again, by contract. -/
import Derived.Test.YtdahoecejnnjkaaSd4
namespace Go.Proofs.Ytdahoecejnnjkaa
open Go.RowKit Mile Go.Maps
set_option maxRecDepth 100000
def stopN (L : List Wt) (F k : Nat) : List Wt := stopL L ((List.range k).map fun i => ((F + i : Nat) : Int))
theorem stopN_zero (L : List Wt) (F : Nat) : stopN L F 0 = L := rfl
theorem stopN_succ (L : List Wt) (F k : Nat) : stopN L F (k + 1) = stopW (stopN L F k) ((F + k : Nat) : Int) := by
  unfold stopN stopL; rw [List.range_succ, List.map_append, List.foldl_append]; rfl
section
variable {w : World} {p tp : Nat} {tb : Option Nat} {W F : Nat} {a : Option Addr} {n c : Nat} {over : Bool} {B M R : Nat} {L : List Wt} {us : UdL}
theorem SD.slot (h : SD w p tp tb W F a n c over B M R L us) (F' : Nat) : SD (w.setCell ⟨p, 2, none⟩ (.int .i64 (F' : Int))) p tp tb W F' a n c over B M R L us ∧ Mod (fun k => k = p) w (w.setCell ⟨p, 2, none⟩ (.int .i64 (F' : Int))) := by
  have hsm : Mod (fun k => k = p) w (w.setCell ⟨p, 2, none⟩ (.int .i64 (F' : Int))) := Mod.setCell (F := fun k => k = p) w ⟨p, 2, none⟩ _ rfl
  exact ⟨⟨h.w1, h.w16, h.len, h.nW, h.blk.set 2 _, h.tm.keep hsm (fun k hk e => h.ptp (e ▸ hk)), Own.keep h.own hsm (fun k hk => (h.row k hk).1), fun u hu => (h.bodies u hu).keep hsm (fun k _ hk => h.noT k (.inl hk)), h.ptp, h.row⟩, hsm⟩
theorem SD.cut (h : SD w p tp tb W F a n c over B M R L us) {w5 : World} {k : Nat} (ho : w5.ownsRow 0 38 1 (.slice a (n - k) c) (n - k) ((us.map (·.2)).drop k)) (hm : Mod (fun i => (Value.slice a n c).ownBlock = some i) w w5) (hk : k ≤ n) :
    SD (w5.setCell ⟨p, 3, none⟩ (.slice a (n - k) c)) p tp tb W F a (n - k) c over B M R L (us.drop k) ∧ Mod (sdF p tp tb a) w (w5.setCell ⟨p, 3, none⟩ (.slice a (n - k) c)) := by
  have hsm : Mod (fun k => k = p) w5 (w5.setCell ⟨p, 3, none⟩ (.slice a (n - k) c)) := Mod.setCell (F := fun k => k = p) w5 ⟨p, 3, none⟩ _ rfl
  have hM : Mod (sdF p tp tb a) w (w5.setCell ⟨p, 3, none⟩ (.slice a (n - k) c)) := hm.trans hsm (fun k _ hk => .inr (.inr (by rw [← hk]; exact own_slice a 0 0 n c))) (fun k _ e => .inl e)
  have hrow : ∀ i, (Value.slice a (n - k) c).ownBlock = some i → i ≠ p ∧ ¬ tmF tp tb i := fun i hi => h.row i (by rw [← hi]; exact own_slice a _ _ _ _)
  refine ⟨⟨h.w1, h.w16, by rw [List.length_drop, h.len], by have := h.nW; omega, (h.blk.keep hm (fun e => (h.row p e).1 rfl)).set 3 _, (h.tm.keep hm (fun k hk e => (h.row k e).2 hk)).keep hsm (fun k hk e => h.ptp (e ▸ hk)), ?_, fun u hu => (h.bodies u (List.mem_of_mem_drop hu)).keep hM (fun k _ hk => h.noT k hk), h.ptp, hrow⟩, hM⟩
  rw [List.map_drop]
  exact Own.keep ho hsm (fun k hk => (hrow k hk).1)
theorem sdacked_no (h : SD w p tp tb W F a n c over B M R L us) (hF : F ≤ 1000000000000) (q : Int) (hq : q ≤ (F : Int) ∨ ((F + n : Nat) : Int) < q) : Calls Try.prog 38 #[.pointer (some ⟨p, 0, none⟩), .int .i64 q] w fun e w' => e = .returned (.int .i64 0) ∧ Mod (fun _ => False) w w' := by
  have hs := sdseq_any h hF
  obtain ⟨r, hr⟩ : ∃ r, ((F + n : Nat) : Int) = r := ⟨_, rfl⟩
  rw [hr] at hs hq
  have HS := Lib.hid hs
  have HH := Lib.hid h
  have HQ := Lib.hid hq
  clear hs h hq hr
  by_cases h1 : r < q
  · have z0 : decide (r < q) = true := by simpa using h1
    clear h1
    go_enter Try.func38, Try.ntmps38
    go_wp2_with fail
    refine HS.out.mono ?_
    rintro e w1 ⟨rfl, hm⟩
    have HM := Lib.hid hm
    clear hm
    go_wp2_with fail
    go_ret
    exact ⟨rfl, HM.out⟩
  · have z0 : decide (r < q) = false := by simpa using h1
    have z1 : decide (q ≤ (F : Int)) = true := by have := HQ.out.resolve_right h1; simpa using this
    clear h1
    go_enter Try.func38, Try.ntmps38
    go_wp2_with fail
    refine HS.out.mono ?_
    rintro e w1 ⟨rfl, hm⟩
    have HM := Lib.hid hm
    have c2 := (HH.out.later hm).blk.cell 2 rfl
    clear hm
    go_wp2_with fail
    go_ret
    exact ⟨rfl, HM.out⟩
set_option maxHeartbeats 8000000 in
theorem sdacked_any (h : SD w p tp tb W F a n c over B M R L us) (hF : F ≤ 1000000000000) (k : Nat) (h0 : 0 < k) (hk : k ≤ n) (q : Int) (hq : q = ((F + k : Nat) : Int)) : Calls Try.prog 38 #[.pointer (some ⟨p, 0, none⟩), .int .i64 q] w fun e w' => e = .returned (.int .i64 (k : Int)) ∧ SdQ p tp tb a W (F + k) (n - k) over B M R (stopN L F k) (us.drop k) w w' := by
  have hs := sdseq_any h hF
  have hnW := h.nW
  have hW := h.w16
  obtain ⟨r, hr⟩ : ∃ r, ((F + n : Nat) : Int) = r := ⟨_, rfl⟩
  rw [hr] at hs
  have z0 : decide (r < q) = false := by simp; omega
  have z1 : decide (q ≤ (F : Int)) = false := by simp; omega
  have hwr : IntKind.i64.wrap (q - (F : Int)) = (k : Int) := by rw [IntWalk.i64_in _ (by omega)]; omega
  have HS := Lib.hid hs
  have HH := Lib.hid h
  have HQ := Lib.hid hq
  clear hs h hq hr
  go_enter Try.func38, Try.ntmps38
  go_wp2_with fail
  refine HS.out.mono ?_
  rintro e w1 ⟨rfl, hm⟩
  have HM := Lib.hid hm
  have HH1 := Lib.hid (HH.out.later hm)
  have c2 := HH1.out.blk.cell 2 rfl
  clear hm
  go_wp2_with fail
  go_loopw [6] (fun i wr => ∃ j s : Nat, j ≤ k ∧ F + j = s ∧ i = .int .i64 (s : Int) ∧ SD wr p tp tb W F a n c over B M R (stopN L F j) us ∧ Mod (sdF p tp tb a) w wr) (fun i _ => F + k - (intOf i).toNat)
  case atStart => exact ⟨0, F, Nat.zero_le _, rfl, rfl, HH1.out, HM.out.mono (fun _ _ e => e.elim)⟩
  case round =>
    obtain ⟨j, s, hj, hjs, rfl, hsd, hmd⟩ := hrel
    obtain ⟨wo, hwo⟩ : ∃ x : World, x = wr := ⟨_, rfl⟩
    subst hwo
    have HSD := Lib.hid hsd
    have HMD := Lib.hid hmd
    have c0 := hsd.blk.cell 0 rfl
    have lp := hsd.blk.lt
    clear hsd hmd c2
    by_cases hlt : j < k
    case pos =>
      have z2 : decide ((s : Int) < q) = true := by have := HQ.out; simp; omega
      have hsw : (Lit.int .i64 (s : Int)).wf = true := (i64_wf _).2 ⟨by omega, by omega⟩
      have HJS := Lib.hid hjs
      clear hjs
      go_wp2_with fail
      refine (tstop_any _ tp tb B M R (stopN L F j) ((HSD.out.later (Mod.alloc (fun _ => False) wo (.cells #[.int .i64 (s : Int)] 3))).tm) _ 1 1 [(s : Int)] rfl (Rd.lit 3 [.int .i64 (s : Int)] (0, 0) _ 1 rfl rfl (by decide)) (by decide) (fun i hi e => ?_) (fun x hx => by rw [List.mem_singleton] at hx; rw [hx]; exact hsw)).mono ?_
      · have h1 : wo.heap.size = i := Option.some.inj hi
        have := HSD.out.tm.lt i (.inr e)
        omega
      rintro e w2 ⟨rfl, ht, hm2⟩
      obtain ⟨hs2, hm3⟩ : SD w2 p tp tb W F a n c over B M R (stopN L F (j + 1)) us ∧ Mod (sdF p tp tb a) wo w2 := by
        have hal := HSD.out.later (Mod.alloc (fun _ => False) wo (.cells #[.int .i64 (s : Int)] 3))
        have hst : stopN L F (j + 1) = stopL (stopN L F j) [(s : Int)] := by rw [stopN_succ, HJS.out]; rfl
        rw [hst]
        refine ⟨⟨hal.w1, hal.w16, hal.len, hal.nW, hal.blk.keep hm2 (fun e => hal.ptp (.inr e)), ht, Own.keep hal.own hm2 (fun i hi e => (hal.row i hi).2 (.inr e)), fun u hu => (hal.bodies u hu).keep hm2 (fun i _ hi => hal.noT i (.inr (.inl (.inr hi)))), hal.ptp, hal.row⟩, (Mod.alloc (fun _ => False) wo _).trans hm2 (fun _ _ e => e.elim) (fun i _ e => .inr (.inl (.inr e)))⟩
      have HS2 := Lib.hid hs2
      have HM3 := Lib.hid (HMD.out.trans hm3 (fun _ _ e => e) (fun _ _ e => e))
      clear hs2 hm3 ht hm2
      have hwi : IntKind.i64.wrap ((s : Int) + 1) = ((s + 1 : Nat) : Int) := by have := HJS.out; rw [IntWalk.i64_in _ (by omega)]; omega
      go_wp2_with fail
      go_roundw
      case rel => exact ⟨j + 1, s + 1, hlt, by have := HJS.out; omega, rfl, HS2.out, HM3.out⟩
      case measure => have := HJS.out; simp [intOf]; omega
    case neg =>
      obtain rfl : j = k := by omega
      have z2 : decide ((s : Int) < q) = false := by have := HQ.out; simp; omega
      have hqs : q = (s : Int) := by have := HQ.out; omega
      subst hqs
      have c2 := HSD.out.blk.cell 2 rfl
      have f2 := HSD.out.blk.free 2
      obtain ⟨hx, hmx⟩ := HSD.out.slot s
      have HX := Lib.hid hx
      have HMX := Lib.hid hmx
      clear hx hmx
      have HJS := Lib.hid hjs
      clear hjs
      go_upto_region 9 with fail
      obtain ⟨wx, hwx⟩ : ∃ x, wo.setCell ⟨p, 2, none⟩ (.int .i64 (s : Int)) = x := ⟨_, rfl⟩
      rw [hwx] at HX HMX ⊢
      have c3 := HX.out.blk.cell 3 rfl
      clear c2 f2 hwx c0
      go_wp2_with fail
      refine (sddel_any wx a n c j (us.map (·.2)) (fun u hu => ?_) HX.out.own h0 hk (by omega)).mono ?_
      · obtain ⟨y, hy, rfl⟩ := List.mem_map.1 hu
        obtain ⟨a', n', c', e, _⟩ := HX.out.bodies y hy
        rw [e]; rfl
      rintro e w5 ⟨rfl, ho, hm5⟩
      obtain ⟨hc, hmc⟩ := HX.out.cut ho hm5 hk
      have hb5 := HX.out.blk.keep hm5 (fun e => (HX.out.row p e).1 rfl)
      have d3 := hb5.cell 3 rfl
      have g3 := hb5.free 3
      have HC := Lib.hid hc
      have HMC := Lib.hid hmc
      clear hc hmc hb5 ho hm5 c3
      go_wp2_with fail
      go_ret
      exact ⟨rfl, tb, a, c, by rw [HJS.out]; exact HC.out, fun i hi => .inl hi, (HMD.out.trans HMX.out (fun _ _ e => e) (fun _ _ e => .inl e)).trans HMC.out (fun _ _ e => e) (fun _ _ e => e)⟩
theorem sdagain_over (h : SD w p tp tb W F a n c true B M R L us) (now : Int) : Calls Try.prog 43 #[.pointer (some ⟨p, 0, none⟩), .int .i64 now] w fun e w' => e = .returned (.tuple #[.slice none 0 0, .int .i64 6]) ∧ w = w' := by
  have HO := Lib.hid (sdover_any h)
  clear h
  go_enter Try.func43, Try.ntmps43
  go_wp2_with fail
  refine HO.out.mono ?_
  rintro e w' ⟨rfl, rfl⟩
  go_wp2_with fail
  go_ret2
  exact ⟨rfl, rfl⟩
theorem sdagain_nil (w : World) (now : Int) : Calls Try.prog 43 #[.pointer none, .int .i64 now] w fun e w' => e = .returned (.tuple #[.slice none 0 0, .int .i64 6]) ∧ w = w' := by
  go_enter Try.func43, Try.ntmps43
  go_wp2_with fail
  refine (sdover_nil w).mono ?_
  rintro e w' ⟨rfl, rfl⟩
  go_wp2_with fail
  go_ret2
  exact ⟨rfl, rfl⟩
theorem SD.ends (h : SD w p tp tb W F a n c over B M R L us) (o : Bool) : SD (w.setCell ⟨p, 4, none⟩ (.bool o)) p tp tb W F a n c o B M R L us ∧ Mod (fun k => k = p) w (w.setCell ⟨p, 4, none⟩ (.bool o)) := by
  have hsm : Mod (fun k => k = p) w (w.setCell ⟨p, 4, none⟩ (.bool o)) := Mod.setCell (F := fun k => k = p) w ⟨p, 4, none⟩ _ rfl
  exact ⟨⟨h.w1, h.w16, h.len, h.nW, h.blk.set 4 _, h.tm.keep hsm (fun k hk e => h.ptp (e ▸ hk)), Own.keep h.own hsm (fun k hk => (h.row k hk).1), fun u hu => (h.bodies u hu).keep hsm (fun k _ hk => h.noT k (.inl hk)), h.ptp, h.row⟩, hsm⟩
/-- What Again leaves and tells. -/
def SdA (p tp : Nat) (tb : Option Nat) (a : Option Addr) (W F n : Nat) (B M R : Nat) (L : List Wt) (us : UdL) (now : Int) (w : World) (e : Ending) (w' : World) : Prop :=
  (if overE R (dueE L now) = [] then (∃ a1 c1, e = .returned (.tuple #[.slice a1 (againE R (dueE L now)).length c1, .int .i64 0]) ∧ World.ownsRow w' w.heap.size 3 1 (.slice a1 (againE R (dueE L now)).length c1) (againE R (dueE L now)).length ((againE R (dueE L now)).map (Value.int .i64)))
    else e = .returned (.tuple #[.slice none 0 0, .int .i64 6])) ∧ SdQ p tp tb a W F n (decide (overE R (dueE L now) ≠ [])) B M R (L.filterMap (dueW B M R now)) us w w'
set_option maxHeartbeats 4000000 in
theorem sdagain_any (h : SD w p tp tb W F a n c false B M R L us) (hL : L.length ≤ 1000000) (now : Int) (hnow : -4611686018427387904 ≤ now ∧ now ≤ 4611686018427387904) :
    Calls Try.prog 43 #[.pointer (some ⟨p, 0, none⟩), .int .i64 now] w fun e w' => SdA p tp tb a W F n B M R L us now w e w' := by
  have HO := Lib.hid (sdover_any h)
  have HH := Lib.hid h
  have c0 := h.blk.cell 0 rfl
  have HL := Lib.hid hL
  have HN := Lib.hid hnow
  clear h hL hnow
  go_enter Try.func43, Try.ntmps43
  go_wp2_with fail
  refine HO.out.mono ?_
  rintro e w' ⟨rfl, rfl⟩
  go_wp2_with fail
  refine (tdue_any w tp tb B M R L HH.out.tm HL.out now HN.out).mono ?_
  rintro e w2 ⟨a1, c1, a2, c2, rfl, ho1, ho2, ht, hm⟩
  obtain ⟨A, hA⟩ : ∃ A, againE R (dueE L now) = A := ⟨_, rfl⟩
  obtain ⟨O, hO⟩ : ∃ O, overE R (dueE L now) = O := ⟨_, rfl⟩
  rw [hA] at ho1
  rw [hO] at ho2
  rw [hA, hO]
  have HA := Lib.hid hA
  have HOv := Lib.hid hO
  have hs2 : SD w2 p tp tb W F a n c false B M R (L.filterMap (dueW B M R now)) us := by
    have hh := HH.out
    exact ⟨hh.w1, hh.w16, hh.len, hh.nW, hh.blk.keep hm hh.ptp, ht, Own.keep hh.own hm (fun i hi => (hh.row i hi).2), fun u hu => (hh.bodies u hu).keep hm (fun i _ hi => hh.noT i (.inr (.inl hi))), hh.ptp, hh.row⟩
  have HS2 := Lib.hid hs2
  have HM := Lib.hid hm
  have HO1 := Lib.hid ho1
  clear hA hO ho2 hs2 hm ho1 ht c0
  cases O with
  | nil =>
    go_wp2_with fail
    go_ret2
    unfold SdA
    rw [HA.out, HOv.out]
    exact ⟨⟨a1, c1, rfl, HO1.out⟩, tb, a, c, HS2.out, fun i hi => .inl hi, HM.out.mono (fun i _ e => .inr (.inl e))⟩
  | cons x O =>
    have z0 : decide (0 < ((x :: O).length : Int)) = true := by simp <;> omega
    have c4 := HS2.out.blk.cell 4 rfl
    have f4 := HS2.out.blk.free 4
    obtain ⟨hx, hmx⟩ := HS2.out.ends true
    have HX := Lib.hid hx
    have HMX := Lib.hid hmx
    clear hx hmx
    go_wp2_with fail
    go_ret2
    unfold SdA
    rw [HA.out, HOv.out]
    exact ⟨rfl, tb, a, c, HX.out, fun i hi => .inl hi, HM.out.trans HMX.out (fun _ _ e => .inr (.inl e)) (fun _ _ e => .inl e)⟩
end
end Go.Proofs.Ytdahoecejnnjkaa
