/- TakerWindow walked. -/
import Derived.Test.YtffcoajodpfngaaAwake26
import Derived.Test.YtffcoajodpfngaaRound
import Derived.Test.YtffcoajodpfngaaBMap
import Derived.Test.YtffcoajodpfngaaIRowP
import Derived.Carry
import Derived.Deep.DeepCutAuto
import Derived.Deep.CutBlock
namespace Go.Proofs.Ytffcoajodpfngaa
open Go.RowKit Mile
set_option maxRecDepth 100000
theorem rd_map {w : World} {K E : TypeId} {b n : Nat} {g : Int → Option Bool} {v : Value} {xs : List Value} (h : BMap Try.prog K E w b g) (hr : Rd w 1 v n xs) (hv : v.ownBlock = some b) : xs = [] := by
  cases xs with
  | nil => rfl
  | cons x t =>
    exfalso
    obtain ⟨a, c, rfl⟩ : ∃ a c, v = .slice a n c := by obtain ⟨_, a, c, rfl, _⟩ := hr; exact ⟨a, c, rfl⟩
    have hn : 0 < n := by have := hr.1; simp at this; omega
    obtain ⟨b0, o, hp, hb⟩ := hr.place (j := 0) hn
    rw [hb] at hv
    have e : b0 = b := Option.some.inj hv
    subst e
    have he := hr.elem (j := 0) (u := x) rfl
    rw [hp] at he
    obtain ⟨k, D, ⟨es, clock, hbk, _⟩, _⟩ := h
    simp [World.cell?, hbk] at he
theorem TK.keepMap {w w' : World} {p r M N mb : Nat} {f : Hld} {K E : TypeId} {g : Int → Option Bool} (h : TK w p r M N f) (hm : BMap Try.prog K E w mb g) (hp : mb ≠ p) (hr : mb ≠ r) (hk : Mod (fun k => k = mb) w w') : TK w' p r M N f := by
  obtain ⟨cs, h1, h2, h3⟩ := h.row
  refine ⟨h.W0, h.W16, h.ne, h.blk.keep hk (fun e => hp e.symm), ⟨cs, h1.keep hk (fun e => hr e.symm), h2, fun s a b => ?_⟩, h.sup⟩
  obtain ⟨g1, v, g2, x, n, c, rfl, hn, hrd, hap⟩ := h3 s a b
  exact ⟨g1, _, g2, x, n, c, rfl, hn, hrd.keepA hk (fun k k1 k2 => rd_map hm hrd (by rw [k1, k2])), hap⟩
/-- What came. -/
def comeF (N : Nat) (f : Hld) : Int → Option Bool := fun x => if 0 ≤ x ∧ (x.toNat < N ∨ (f x.toNat).isSome = true) then some true else none
theorem comeF_zero : (fun _ => none) = comeF 0 (fun _ => none) := by funext x; unfold comeF; simp
theorem comeF_get (N : Nat) (f : Hld) (s : Nat) : ((comeF N f (s : Int)).getD false) = (decide (s < N) || (f s).isSome) := by
  unfold comeF
  rw [Int.toNat_natCast]
  by_cases h1 : s < N
  · simp [h1]
  · cases h2 : (f s).isSome <;> simp [h1]
theorem comeF_neg (N : Nat) (f : Hld) (x : Int) (h : x < 0) : ((comeF N f x).getD false) = false := by unfold comeF; rw [if_neg (by omega)]; rfl
theorem comeF_take {f : Hld} {M N k : Nat} {b : List Int} (hf : f N = none) (hk : N ≤ k) : (fun j : Int => if j = (k : Int) then some true else comeF N f j) = comeF (N + (runL (putH f k b) M N).length) (fromH (putH f k b) (N + (runL (putH f k b) M N).length)) := by
  obtain ⟨L, hL⟩ : ∃ L, (runL (putH f k b) M N).length = L := ⟨_, rfl⟩
  have hat : ∀ i, i < L → (putH f k b (N + i)).isSome = true := fun i hi => by rw [runL_at (putH f k b) M N i (by omega)]; rfl
  rw [hL]
  funext x
  by_cases h0 : 0 ≤ x
  · obtain ⟨s, rfl⟩ := Int.eq_ofNat_of_zero_le h0
    unfold comeF
    rw [Int.toNat_natCast]
    by_cases e : s = k
    · subst e
      rw [if_pos rfl, if_pos]
      refine ⟨h0, ?_⟩
      by_cases c : s < N + L
      · exact .inl c
      · refine .inr ?_
        unfold fromH putH
        rw [if_neg c, if_pos rfl]; rfl
    · rw [if_neg (by omega)]
      have hput : putH f k b s = f s := by unfold putH; rw [if_neg e]
      by_cases c1 : s < N
      · rw [if_pos ⟨h0, .inl c1⟩, if_pos ⟨h0, .inl (by omega)⟩]
      · by_cases c2 : (f s).isSome = true
        · rw [if_pos ⟨h0, .inr c2⟩, if_pos]
          refine ⟨h0, ?_⟩
          by_cases c : s < N + L
          · exact .inl c
          · refine .inr ?_
            unfold fromH
            rw [if_neg c, hput]; exact c2
        · rw [if_neg (by rintro ⟨_, h | h⟩; omega; exact c2 h), if_neg]
          rintro ⟨_, h | h⟩
          · have := hat (s - N) (by omega)
            rw [show N + (s - N) = s by omega, hput] at this
            exact c2 this
          · unfold fromH at h
            by_cases c : s < N + L
            · rw [if_pos c] at h; cases h
            · rw [if_neg c, hput] at h; exact c2 h
  · unfold comeF
    rw [if_neg (by omega), if_neg (by omega), if_neg (by omega)]
theorem comeF_keys {N M : Nat} {f : Hld} (hs : ∀ s, f s ≠ none → N ≤ s ∧ s < N + M) : ∀ k, comeF N f k ≠ none → k ∈ (List.range (N + M)).map Int.ofNat := fun k hk => by
  unfold comeF at hk
  by_cases c : 0 ≤ k ∧ (k.toNat < N ∨ (f k.toNat).isSome = true)
  · refine List.mem_map.2 ⟨k.toNat, List.mem_range.2 ?_, by show ((k.toNat : Nat) : Int) = k; omega⟩
    rcases c.2 with h | h
    · omega
    · exact (hs k.toNat (fun e => by rw [e] at h; cases h)).2
  · rw [if_neg c] at hk; exact absurd rfl hk
theorem heldT_pre (f : Hld) (N : Nat) : ∀ (d t : Nat), ∃ rest, heldT f N (t + d) = heldT f N t ++ rest
  | 0, t => ⟨[], by simp⟩
  | d + 1, t => by
    obtain ⟨rest, h⟩ := heldT_pre f N d t
    rw [show t + (d + 1) = t + d + 1 by omega, heldT_succ, h, List.append_assoc]
    exact ⟨_, rfl⟩
theorem heldT_nth {f : Hld} {N M t : Nat} (ht : t < M) (h : (f (N + t)).isSome = true) : (heldT f N t).length < (heldT f N M).length ∧ (heldT f N M)[(heldT f N t).length]? = some ((N + t : Nat) : Int) := by
  obtain ⟨rest, hr⟩ := heldT_pre f N (M - (t + 1)) (t + 1)
  rw [show t + 1 + (M - (t + 1)) = M by omega, heldT_succ, if_pos h, List.append_assoc] at hr
  rw [hr]
  constructor
  · first | (simp; done) | (simp; omega)
  · rw [List.getElem?_append_right (Nat.le_refl _)]; simp

set_option maxHeartbeats 64000000 in
theorem twin_all (w : World) (wv : Int) (a0 : Option Addr) (m c0 : Nat) (l : List Int) (hm : l.length = m) (hr : Rd w 1 (.slice a0 m c0) m (l.map (Value.int .i64))) :
    Calls Try.prog 5 #[.int .i64 wv, .slice a0 m c0] w fun e w' => e = .returned (.bool true) ∧ Mod (fun _ => False) w w' := by
  obtain ⟨iI, hiI, hzI, hsI, hbI⟩ := info_parts Tk.info3
  by_cases a0 : wv < 1
  case pos =>
    have HS : Hid (Ev (Mod (fun _ => False) w) w) := Lib.hid (Ev.mod w)
    have z0 : decide (wv < 1) = true := by simp; omega
    go_enter Try.func5, Try.ntmps5
    go_wp2_with fail
    refine (awake26_any _).mono ?_
    rintro e wq1 ⟨rfl, hm⟩
    replace HS := Lib.hid (HS.out.step hm)
    clear hm
    go_wp2_with fail
    go_ret
    exact ⟨rfl, HS.out.now⟩
  by_cases a1 : 16 < wv
  case pos =>
    have HS : Hid (Ev (Mod (fun _ => False) w) w) := Lib.hid (Ev.mod w)
    have z0 : decide (wv < 1) = false := by simp; omega
    have z1 : decide (16 < wv) = true := by simp; omega
    go_enter Try.func5, Try.ntmps5
    go_wp2_with fail
    refine (awake26_any _).mono ?_
    rintro e wq2 ⟨rfl, hm⟩
    replace HS := Lib.hid (HS.out.step hm)
    clear hm
    go_wp2_with fail
    go_ret
    exact ⟨rfl, HS.out.now⟩
  by_cases a2 : 100 < m
  case pos =>
    have HS : Hid (Ev (Mod (fun _ => False) w) w) := Lib.hid (Ev.mod w)
    have z0 : decide (wv < 1) = false := by simp; omega
    have z1 : decide (16 < wv) = false := by simp; omega
    have z2 : decide (100 < (m : Int)) = true := by simp; omega
    go_enter Try.func5, Try.ntmps5
    go_wp2_with fail
    refine (awake26_any _).mono ?_
    rintro e wq3 ⟨rfl, hm⟩
    replace HS := Lib.hid (HS.out.step hm)
    clear hm
    go_wp2_with fail
    go_ret
    exact ⟨rfl, HS.out.now⟩
  obtain ⟨M, rfl⟩ := Int.eq_ofNat_of_zero_le (show 0 ≤ wv by omega)
  have hM1 : 1 ≤ M := by omega
  have hM16 : M ≤ 16 := by omega
  have hm100 : m ≤ 100 := by omega
  have HS : Hid (Ev (Mod (fun _ => False) w) w) := Lib.hid (Ev.mod w)
  replace HS := Lib.hid ((Ev.rd hr).and HS.out)
  have HN := Lib.hid hm
  clear hr hm
  have z0 : decide ((M : Int) < 1) = false := by simp; omega
  have z1 : decide (16 < (M : Int)) = false := by simp; omega
  have z4 : decide (100 < (m : Int)) = false := by simp; omega
  clear a0 a1 a2
  go_enter Try.func5, Try.ntmps5
  go_wp2_with fail
  refine (tknew_any _ M hM1 hM16).mono ?_
  rintro e w1 ⟨p, r, rfl, htk, hp, hr, hm1⟩
  have HP := Lib.hid hp
  have HR := Lib.hid hr
  have hplt := htk.blk.lt
  have hrlt : r < w1.heap.size := by obtain ⟨cs, hcs, _⟩ := htk.row; exact hcs.lt
  obtain ⟨mb, hmb⟩ : ∃ b, w1.heap.size = b := ⟨_, rfl⟩
  obtain ⟨w2, hw2⟩ : ∃ W, World.alloc w1 (.map #[] 0) = W := ⟨_, rfl⟩
  have hbm : BMap Try.prog 3 4 w2 mb (comeF 0 (fun _ => none)) := by rw [← hw2, ← hmb, ← comeF_zero]; exact BMap.made _
  have hm2 : Mod (fun _ => False) w1 w2 := by rw [← hw2]; exact Mod.alloc _ _ _
  have HTK := Lib.hid (htk.keep hm2)
  have HM1 := Lib.hid (hm1.of2 hm2)
  have HBM := Lib.hid hbm
  have hmp : mb ≠ p := by omega
  have hmr2 : mb ≠ r := by omega
  have hmw : w.heap.size ≤ mb := by have := hm1.size; omega
  have HMW := Lib.hid hmw
  have hmk := @run_makeMap Try.prog
  clear htk hm1 hp hr z0 z1 z4 hbm hm2 hplt hrlt hmw
  have HSB := HS
  clear HS
  go_upto_region 7 with fail
  try rw [hw2, hmb]
  clear hw2 hmb hmk
  go_wp2_with fail
  go_loopw [8] (fun iv wr => ∃ (i N : Nat) (f : Hld), iv = .int .i64 (i : Int) ∧ i ≤ m ∧ N ≤ 16 * i ∧ TK wr p r M N f ∧ f N = none ∧ BMap Try.prog 3 4 wr mb (comeF N f) ∧ Mod (fun _ => False) w wr) (fun iv _ => m - (intOf iv).toNat)
  case atStart => exact ⟨0, 0, fun _ => none, rfl, by omega, by omega, HTK.out, rfl, HBM.out, HM1.out⟩
  case round =>
    obtain ⟨i, N, f, rfl, hi, hNi, htk, hfN, hbm, hmr⟩ := hrel
    obtain ⟨wo, hwo⟩ : ∃ x : World, x = wr := ⟨_, rfl⟩
    subst hwo
    have HTO := Lib.hid htk
    have HFN := Lib.hid hfN
    have HBO := Lib.hid hbm
    have HMR := Lib.hid hmr
    clear htk hfN hbm hmr HTK HM1 HBM
    have HS := Lib.hid (HSB.out.step HMR.out)
    by_cases hlt : i < m
    case neg =>
      obtain rfl : m = i := by omega
      have z0 : decide ((m : Int) < (m : Int)) = false := by simp
      have z1 : decide (m < m) = false := by simp
      go_wp2_with fail
      refine (awake26_any _).mono ?_
      rintro e w6 ⟨rfl, hm6⟩
      have HM6 := Lib.hid (HMR.out.of2 hm6)
      clear hm6
      go_wp2_with fail
      go_ret
      exact ⟨rfl, HM6.out⟩
    case pos =>
      have z0 : decide ((i : Int) < (m : Int)) = true := by simp; omega
      have z1 : decide (i < m) = true := by simp; omega
      have hil : i < l.length := by rw [HN.out]; exact hlt
      have hN16 : N ≤ 1600 := by omega
      go_wp2_with fail
      refine (tknext_any wo p r M N f HTO.out).mono ?_
      rintro e w' ⟨rfl, hw'⟩
      subst hw'
      clear z0 z1
      obtain ⟨lx, HLX0⟩ : ∃ qz, l[i] = qz := ⟨_, rfl⟩
      have HLX := Lib.hid HLX0
      clear HLX0
      obtain ⟨f0b, f0o, hpl, e0⟩ := rd1 (HS.out.now).1 i hil
      have hix := fun wx => run_indexS (P := Try.prog) wx 22 3 iI 1 Try.underlying22 hiI hsI a0 m c0 i hlt ((HS.out.now).1.some_ (by have := hlt; omega))
      rw [hpl] at hix
      have HIf0 := Lib.hid hix
      clear hix hpl
      rw [HLX.out] at e0
      replace HS := Lib.hid ((Ev.cell e0).and HS.out)
      clear e0
      have qf := (HS.out.now).1
      have hix1 := HIf0.out
      go_wp2_with fail
      refine (round_any lx ((M : Int) + 4) _ (by omega) (by omega)).mono ?_
      rintro e w' ⟨rfl, hw'⟩
      subst hw'
      have hr0 := Int.emod_nonneg lx (b := (M : Int) + 4) (by omega)
      have hr1 := Int.emod_lt_of_pos lx (b := (M : Int) + 4) (by omega)
      obtain ⟨rr, hk⟩ : ∃ y, lx % ((M : Int) + 4) = y := ⟨_, rfl⟩
      rw [hk] at hr0 hr1 ⊢
      have HK := Lib.hid hk
      clear hk qf hix1
      obtain ⟨kv, hkv⟩ : ∃ y, (N : Int) - 2 + rr = y := ⟨_, rfl⟩
      have hk1 : (N : Int) - 2 ≤ kv := by omega
      have hk2 : kv < (N : Int) + 2 + (M : Int) := by omega
      go_wp2_with fail
      have HKV := Lib.hid hkv
      clear hkv hr0 hr1
      have hwf : (Lit.int .i64 kv).wf = true := (i64_wf _).2 ⟨by omega, by omega⟩
      by_cases hcan : (N : Int) ≤ kv ∧ kv < (N : Int) + (M : Int) ∧ f kv.toNat = none
      case neg =>
        have hno : kv < (N : Int) ∨ (N : Int) + (M : Int) ≤ kv ∨ ∃ s : Nat, kv = (s : Int) ∧ f s ≠ none := by
          by_cases q1 : (N : Int) ≤ kv
          · by_cases q2 : kv < (N : Int) + (M : Int)
            · exact .inr (.inr ⟨kv.toNat, by omega, fun e => hcan ⟨q1, q2, e⟩⟩)
            · exact .inr (.inl (by omega))
          · exact .inl (by omega)
        refine (tk_lit_no HTO.out (by omega) kv hno _ 1).mono ?_
        rintro e w5 ⟨rfl, hm5⟩
        have HM5 := Lib.hid (HMR.out.of2 hm5)
        have HT5 := Lib.hid (HTO.out.keep hm5)
        have HB5 := Lib.hid (HBO.out.keep hm5 (fun e => e))
        clear hm5 HTO HBO
        have hlk := HB5.out.look1 (t := 45) Try.underlying45 Try.underlying3 Try.underlying4 (by kernel_rfl) kv hwf
        have hmay : decide ((N : Int) ≤ kv) = false ∨ decide (kv < (N : Int) + (M : Int)) = false ∨ (decide ((N : Int) ≤ kv) = true ∧ decide (kv < (N : Int) + (M : Int)) = true ∧ ((comeF N f kv).getD false) = true) := by
          rcases hno with h | h | ⟨s, rfl, h⟩
          · exact .inl (by simp; omega)
          · exact .inr (.inl (by simp; omega))
          · have h2 := HT5.out.sup s h
            refine .inr (.inr ⟨by simp; omega, by simp; omega, ?_⟩)
            rw [comeF_get, Bool.or_eq_true]
            right
            cases hx : f s with
            | none => exact absurd hx h
            | some b => rfl
        clear hcan hno
        have HT6 := HT5
        have HB6 := HB5
        have HM6 := HM5
        have HFE := HFN
        rcases hmay with z6 | z6 | ⟨z6, z7, z8⟩
        · skip
          go_wp2_with fail
          go_loopw [9] (fun nv wr => ∃ x : Nat, N ≤ x ∧ x ≤ N ∧ nv = .int .i64 (x : Int) ∧ Mod (fun _ => False) w5 wr) (fun nv _ => N - (intOf nv).toNat)
          case atStart => exact ⟨N, Nat.le_refl _, Nat.le_refl _, rfl, Mod.refl _ _⟩
          case round =>
            obtain ⟨x, hx1, hx2, rfl, hmr⟩ := hrel
            obtain ⟨wx, hwx⟩ : ∃ y : World, y = wr := ⟨_, rfl⟩
            subst hwx
            have HMX := Lib.hid hmr
            clear hmr
            have hlk := (HB6.out.keep HMX.out (fun e => e)).look1 (t := 45) Try.underlying45 Try.underlying3 Try.underlying4 (by kernel_rfl) (x : Int) ((i64_wf _).2 ⟨by omega, by omega⟩)
            rw [comeF_get] at hlk
            by_cases hxl : x < N
            case pos =>
              rw [decide_eq_true hxl, Bool.true_or] at hlk
              go_wp2_with fail
              go_roundw
              case rel => exact ⟨x + 1, by omega, by omega, by go_num, HMX.out⟩
              case measure => simp [intOf]; omega
            case neg =>
              obtain rfl : x = N := by omega
              rw [decide_eq_false (Nat.lt_irrefl _), HFE.out] at hlk
              replace hlk : (Instr.lookup 45 (.map (some mb)) (.int .i64 (x : Int)) false).run Try.prog wx = .ok (.bool false) wx := hlk
              have HT7 := Lib.hid (HT6.out.keep HMX.out)
              have HB7 := Lib.hid (HB6.out.keep HMX.out (fun e => e))
              have HM7 := Lib.hid (HM6.out.of2 HMX.out)
              obtain ⟨f9, hf9⟩ : ∃ y, f = y := ⟨_, rfl⟩
              rw [hf9] at HT7 HB7 HFE
              clear hf9
              go_wp2_with fail
              clear hlk
              refine (tkheld_any wx p r M x f9 HT7.out (by omega)).mono ?_
              rintro e w8 ⟨a8, c8, rfl, ho8, hm8⟩
              obtain ⟨hs, hhs⟩ : ∃ y, heldT f9 x M = y := ⟨_, rfl⟩
              rw [hhs] at ho8 ⊢
              obtain ⟨lh, hlh⟩ : ∃ y, hs.length = y := ⟨_, rfl⟩
              rw [hlh] at ho8 ⊢
              have hlh16 : lh ≤ 16 := by have := heldT_len f9 x M; rw [hhs, hlh] at this; omega
              have HHS := Lib.hid hhs
              have HLH := Lib.hid hlh
              have HO8 := Lib.hid (Rd.ofOwn ho8)
              have HT8 := Lib.hid (HT7.out.keep hm8)
              have HB8 := Lib.hid (HB7.out.keep hm8 (fun e => e))
              have HM8 := Lib.hid (HM7.out.of2 hm8)
              clear hm8 ho8 hhs hlh HT7 HB7
              go_wp2_with fail
              go_loopw [15, 16] (fun nv jv wr => ∃ t : Nat, t ≤ M ∧ nv = .int .i64 ((heldT f9 x t).length : Int) ∧ jv = .int .i64 ((x : Int) + (t : Int)) ∧ Mod (fun _ => False) w8 wr) (fun _ jv _ => (x + M) - (intOf jv).toNat)
              case atStart => exact ⟨0, by omega, by simp [heldT], by simp, Mod.refl _ _⟩
              case round =>
                obtain ⟨t, ht, rfl, rfl, hmr⟩ := hrel
                obtain ⟨wy, hwy⟩ : ∃ y : World, y = wr := ⟨_, rfl⟩
                subst hwy
                have HMY := Lib.hid hmr
                clear hmr
                obtain ⟨ln, hln⟩ : ∃ y, (heldT f9 x t).length = y := ⟨_, rfl⟩
                rw [hln]
                have HLN := Lib.hid hln
                have hln16 : ln ≤ 16 := by have := heldT_len f9 x t; omega
                clear hln
                by_cases htl : t < M
                case pos =>
                  have z5 : decide ((x : Int) + (t : Int) < (x : Int) + (M : Int)) = true := by simp; omega
                  have z6 : decide (t < M) = true := by simp; omega
                  have hjc : ((x + t : Nat) : Int) = (x : Int) + (t : Int) := by omega
                  have hlk := (HB8.out.keep HMY.out (fun e => e)).look1 (t := 45) Try.underlying45 Try.underlying3 Try.underlying4 (by kernel_rfl) ((x + t : Nat) : Int) ((i64_wf _).2 ⟨by omega, by omega⟩)
                  rw [comeF_get, decide_eq_false (by omega), Bool.false_or, hjc] at hlk
                  have hsc := heldT_succ f9 x t
                  obtain ⟨bh, hbh⟩ : ∃ y, (f9 (x + t)).isSome = y := ⟨_, rfl⟩
                  rw [hbh] at hlk hsc
                  have HSC := Lib.hid hsc
                  have HJC := Lib.hid hjc
                  clear hsc hjc
                  cases bh with
                  | false =>
                    go_wp2_with fail
                    go_roundw
                    case rel => exact ⟨t + 1, htl, by rw [HSC.out, if_neg (by simp), List.append_nil, HLN.out], by go_num, HMY.out⟩
                    case measure => simp [intOf]; omega
                  | true =>
                    have hnth := heldT_nth htl hbh
                    rw [HHS.out, HLH.out, HLN.out, HJC.out] at hnth
                    have hl1 := hnth.1
                    have z7 : decide ((lh : Int) ≤ (ln : Int)) = false := by simp; omega
                    have z8 : decide (lh ≤ ln) = false := by simp; omega
                    have hcell := hnth.2
                    obtain ⟨fb, fo, hpl, _⟩ := HO8.out.place (j := ln) hl1
                    have hix := fun wx => run_indexS (P := Try.prog) wx 22 3 iI 1 Try.underlying22 hiI hsI a8 lh c8 ln hl1 (HO8.out.some_ (by omega))
                    have ef := HO8.out.elem (j := ln) (u := .int .i64 ((x : Int) + (t : Int))) (by rw [List.getElem?_map, hcell]; rfl)
                    rw [hpl] at hix ef
                    have ef2 := HMY.out.cell ef (fun e => e)
                    have z9 : ((x : Int) + (t : Int) != (x : Int) + (t : Int)) = false := by simp
                    clear ef hpl hnth hcell
                    go_wp2_with fail
                    go_roundw
                    case rel => exact ⟨t + 1, htl, by rw [HSC.out, if_pos rfl, List.length_append, HLN.out]; rfl, by go_num, HMY.out⟩
                    case measure => simp [intOf]; omega
                case neg =>
                  obtain rfl : M = t := by omega
                  have z5 : decide ((x : Int) + (M : Int) < (x : Int) + (M : Int)) = false := by simp
                  have z6 : decide (M < M) = false := by simp
                  have hll : ln = lh := by rw [← HLN.out, HHS.out, HLH.out]
                  subst hll
                  have HT9 := Lib.hid (HT8.out.keep HMY.out)
                  have HB9 := Lib.hid (HB8.out.keep HMY.out (fun e => e))
                  have HM9 := Lib.hid (HM8.out.of2 HMY.out)
                  have y1 : ((x : Int) != (x : Int)) = false := by simp
                  have y2 : ((ln : Int) != (ln : Int)) = false := by simp
                  go_wp2_with fail
                  refine (tknext_any wy p r M x f9 HT9.out).mono ?_
                  rintro e w' ⟨rfl, hw'⟩
                  subst hw'
                  go_wp2_with fail
                  go_roundw
                  case rel => exact ⟨i + 1, x, f9, by go_num, hlt, by omega, HT9.out, HFE.out, HB9.out, HM9.out⟩
                  case measure => simp [intOf]; omega
        · skip
          obtain ⟨b7, hb7⟩ : ∃ y, decide ((N : Int) ≤ kv) = y := ⟨_, rfl⟩
          cases b7 with
          | false =>
            go_wp2_with fail
            go_loopw [9] (fun nv wr => ∃ x : Nat, N ≤ x ∧ x ≤ N ∧ nv = .int .i64 (x : Int) ∧ Mod (fun _ => False) w5 wr) (fun nv _ => N - (intOf nv).toNat)
            case atStart => exact ⟨N, Nat.le_refl _, Nat.le_refl _, rfl, Mod.refl _ _⟩
            case round =>
              obtain ⟨x, hx1, hx2, rfl, hmr⟩ := hrel
              obtain ⟨wx, hwx⟩ : ∃ y : World, y = wr := ⟨_, rfl⟩
              subst hwx
              have HMX := Lib.hid hmr
              clear hmr
              have hlk := (HB6.out.keep HMX.out (fun e => e)).look1 (t := 45) Try.underlying45 Try.underlying3 Try.underlying4 (by kernel_rfl) (x : Int) ((i64_wf _).2 ⟨by omega, by omega⟩)
              rw [comeF_get] at hlk
              by_cases hxl : x < N
              case pos =>
                rw [decide_eq_true hxl, Bool.true_or] at hlk
                go_wp2_with fail
                go_roundw
                case rel => exact ⟨x + 1, by omega, by omega, by go_num, HMX.out⟩
                case measure => simp [intOf]; omega
              case neg =>
                obtain rfl : x = N := by omega
                rw [decide_eq_false (Nat.lt_irrefl _), HFE.out] at hlk
                replace hlk : (Instr.lookup 45 (.map (some mb)) (.int .i64 (x : Int)) false).run Try.prog wx = .ok (.bool false) wx := hlk
                have HT7 := Lib.hid (HT6.out.keep HMX.out)
                have HB7 := Lib.hid (HB6.out.keep HMX.out (fun e => e))
                have HM7 := Lib.hid (HM6.out.of2 HMX.out)
                obtain ⟨f9, hf9⟩ : ∃ y, f = y := ⟨_, rfl⟩
                rw [hf9] at HT7 HB7 HFE
                clear hf9
                go_wp2_with fail
                clear hlk
                refine (tkheld_any wx p r M x f9 HT7.out (by omega)).mono ?_
                rintro e w8 ⟨a8, c8, rfl, ho8, hm8⟩
                obtain ⟨hs, hhs⟩ : ∃ y, heldT f9 x M = y := ⟨_, rfl⟩
                rw [hhs] at ho8 ⊢
                obtain ⟨lh, hlh⟩ : ∃ y, hs.length = y := ⟨_, rfl⟩
                rw [hlh] at ho8 ⊢
                have hlh16 : lh ≤ 16 := by have := heldT_len f9 x M; rw [hhs, hlh] at this; omega
                have HHS := Lib.hid hhs
                have HLH := Lib.hid hlh
                have HO8 := Lib.hid (Rd.ofOwn ho8)
                have HT8 := Lib.hid (HT7.out.keep hm8)
                have HB8 := Lib.hid (HB7.out.keep hm8 (fun e => e))
                have HM8 := Lib.hid (HM7.out.of2 hm8)
                clear hm8 ho8 hhs hlh HT7 HB7
                go_wp2_with fail
                go_loopw [15, 16] (fun nv jv wr => ∃ t : Nat, t ≤ M ∧ nv = .int .i64 ((heldT f9 x t).length : Int) ∧ jv = .int .i64 ((x : Int) + (t : Int)) ∧ Mod (fun _ => False) w8 wr) (fun _ jv _ => (x + M) - (intOf jv).toNat)
                case atStart => exact ⟨0, by omega, by simp [heldT], by simp, Mod.refl _ _⟩
                case round =>
                  obtain ⟨t, ht, rfl, rfl, hmr⟩ := hrel
                  obtain ⟨wy, hwy⟩ : ∃ y : World, y = wr := ⟨_, rfl⟩
                  subst hwy
                  have HMY := Lib.hid hmr
                  clear hmr
                  obtain ⟨ln, hln⟩ : ∃ y, (heldT f9 x t).length = y := ⟨_, rfl⟩
                  rw [hln]
                  have HLN := Lib.hid hln
                  have hln16 : ln ≤ 16 := by have := heldT_len f9 x t; omega
                  clear hln
                  by_cases htl : t < M
                  case pos =>
                    have z5 : decide ((x : Int) + (t : Int) < (x : Int) + (M : Int)) = true := by simp; omega
                    have z6 : decide (t < M) = true := by simp; omega
                    have hjc : ((x + t : Nat) : Int) = (x : Int) + (t : Int) := by omega
                    have hlk := (HB8.out.keep HMY.out (fun e => e)).look1 (t := 45) Try.underlying45 Try.underlying3 Try.underlying4 (by kernel_rfl) ((x + t : Nat) : Int) ((i64_wf _).2 ⟨by omega, by omega⟩)
                    rw [comeF_get, decide_eq_false (by omega), Bool.false_or, hjc] at hlk
                    have hsc := heldT_succ f9 x t
                    obtain ⟨bh, hbh⟩ : ∃ y, (f9 (x + t)).isSome = y := ⟨_, rfl⟩
                    rw [hbh] at hlk hsc
                    have HSC := Lib.hid hsc
                    have HJC := Lib.hid hjc
                    clear hsc hjc
                    cases bh with
                    | false =>
                      go_wp2_with fail
                      go_roundw
                      case rel => exact ⟨t + 1, htl, by rw [HSC.out, if_neg (by simp), List.append_nil, HLN.out], by go_num, HMY.out⟩
                      case measure => simp [intOf]; omega
                    | true =>
                      have hnth := heldT_nth htl hbh
                      rw [HHS.out, HLH.out, HLN.out, HJC.out] at hnth
                      have hl1 := hnth.1
                      have z7 : decide ((lh : Int) ≤ (ln : Int)) = false := by simp; omega
                      have z8 : decide (lh ≤ ln) = false := by simp; omega
                      have hcell := hnth.2
                      obtain ⟨fb, fo, hpl, _⟩ := HO8.out.place (j := ln) hl1
                      have hix := fun wx => run_indexS (P := Try.prog) wx 22 3 iI 1 Try.underlying22 hiI hsI a8 lh c8 ln hl1 (HO8.out.some_ (by omega))
                      have ef := HO8.out.elem (j := ln) (u := .int .i64 ((x : Int) + (t : Int))) (by rw [List.getElem?_map, hcell]; rfl)
                      rw [hpl] at hix ef
                      have ef2 := HMY.out.cell ef (fun e => e)
                      have z9 : ((x : Int) + (t : Int) != (x : Int) + (t : Int)) = false := by simp
                      clear ef hpl hnth hcell
                      go_wp2_with fail
                      go_roundw
                      case rel => exact ⟨t + 1, htl, by rw [HSC.out, if_pos rfl, List.length_append, HLN.out]; rfl, by go_num, HMY.out⟩
                      case measure => simp [intOf]; omega
                  case neg =>
                    obtain rfl : M = t := by omega
                    have z5 : decide ((x : Int) + (M : Int) < (x : Int) + (M : Int)) = false := by simp
                    have z6 : decide (M < M) = false := by simp
                    have hll : ln = lh := by rw [← HLN.out, HHS.out, HLH.out]
                    subst hll
                    have HT9 := Lib.hid (HT8.out.keep HMY.out)
                    have HB9 := Lib.hid (HB8.out.keep HMY.out (fun e => e))
                    have HM9 := Lib.hid (HM8.out.of2 HMY.out)
                    have y1 : ((x : Int) != (x : Int)) = false := by simp
                    have y2 : ((ln : Int) != (ln : Int)) = false := by simp
                    go_wp2_with fail
                    refine (tknext_any wy p r M x f9 HT9.out).mono ?_
                    rintro e w' ⟨rfl, hw'⟩
                    subst hw'
                    go_wp2_with fail
                    go_roundw
                    case rel => exact ⟨i + 1, x, f9, by go_num, hlt, by omega, HT9.out, HFE.out, HB9.out, HM9.out⟩
                    case measure => simp [intOf]; omega
          | true =>
            go_wp2_with fail
            go_loopw [9] (fun nv wr => ∃ x : Nat, N ≤ x ∧ x ≤ N ∧ nv = .int .i64 (x : Int) ∧ Mod (fun _ => False) w5 wr) (fun nv _ => N - (intOf nv).toNat)
            case atStart => exact ⟨N, Nat.le_refl _, Nat.le_refl _, rfl, Mod.refl _ _⟩
            case round =>
              obtain ⟨x, hx1, hx2, rfl, hmr⟩ := hrel
              obtain ⟨wx, hwx⟩ : ∃ y : World, y = wr := ⟨_, rfl⟩
              subst hwx
              have HMX := Lib.hid hmr
              clear hmr
              have hlk := (HB6.out.keep HMX.out (fun e => e)).look1 (t := 45) Try.underlying45 Try.underlying3 Try.underlying4 (by kernel_rfl) (x : Int) ((i64_wf _).2 ⟨by omega, by omega⟩)
              rw [comeF_get] at hlk
              by_cases hxl : x < N
              case pos =>
                rw [decide_eq_true hxl, Bool.true_or] at hlk
                go_wp2_with fail
                go_roundw
                case rel => exact ⟨x + 1, by omega, by omega, by go_num, HMX.out⟩
                case measure => simp [intOf]; omega
              case neg =>
                obtain rfl : x = N := by omega
                rw [decide_eq_false (Nat.lt_irrefl _), HFE.out] at hlk
                replace hlk : (Instr.lookup 45 (.map (some mb)) (.int .i64 (x : Int)) false).run Try.prog wx = .ok (.bool false) wx := hlk
                have HT7 := Lib.hid (HT6.out.keep HMX.out)
                have HB7 := Lib.hid (HB6.out.keep HMX.out (fun e => e))
                have HM7 := Lib.hid (HM6.out.of2 HMX.out)
                obtain ⟨f9, hf9⟩ : ∃ y, f = y := ⟨_, rfl⟩
                rw [hf9] at HT7 HB7 HFE
                clear hf9
                go_wp2_with fail
                clear hlk
                refine (tkheld_any wx p r M x f9 HT7.out (by omega)).mono ?_
                rintro e w8 ⟨a8, c8, rfl, ho8, hm8⟩
                obtain ⟨hs, hhs⟩ : ∃ y, heldT f9 x M = y := ⟨_, rfl⟩
                rw [hhs] at ho8 ⊢
                obtain ⟨lh, hlh⟩ : ∃ y, hs.length = y := ⟨_, rfl⟩
                rw [hlh] at ho8 ⊢
                have hlh16 : lh ≤ 16 := by have := heldT_len f9 x M; rw [hhs, hlh] at this; omega
                have HHS := Lib.hid hhs
                have HLH := Lib.hid hlh
                have HO8 := Lib.hid (Rd.ofOwn ho8)
                have HT8 := Lib.hid (HT7.out.keep hm8)
                have HB8 := Lib.hid (HB7.out.keep hm8 (fun e => e))
                have HM8 := Lib.hid (HM7.out.of2 hm8)
                clear hm8 ho8 hhs hlh HT7 HB7
                go_wp2_with fail
                go_loopw [15, 16] (fun nv jv wr => ∃ t : Nat, t ≤ M ∧ nv = .int .i64 ((heldT f9 x t).length : Int) ∧ jv = .int .i64 ((x : Int) + (t : Int)) ∧ Mod (fun _ => False) w8 wr) (fun _ jv _ => (x + M) - (intOf jv).toNat)
                case atStart => exact ⟨0, by omega, by simp [heldT], by simp, Mod.refl _ _⟩
                case round =>
                  obtain ⟨t, ht, rfl, rfl, hmr⟩ := hrel
                  obtain ⟨wy, hwy⟩ : ∃ y : World, y = wr := ⟨_, rfl⟩
                  subst hwy
                  have HMY := Lib.hid hmr
                  clear hmr
                  obtain ⟨ln, hln⟩ : ∃ y, (heldT f9 x t).length = y := ⟨_, rfl⟩
                  rw [hln]
                  have HLN := Lib.hid hln
                  have hln16 : ln ≤ 16 := by have := heldT_len f9 x t; omega
                  clear hln
                  by_cases htl : t < M
                  case pos =>
                    have z5 : decide ((x : Int) + (t : Int) < (x : Int) + (M : Int)) = true := by simp; omega
                    have z6 : decide (t < M) = true := by simp; omega
                    have hjc : ((x + t : Nat) : Int) = (x : Int) + (t : Int) := by omega
                    have hlk := (HB8.out.keep HMY.out (fun e => e)).look1 (t := 45) Try.underlying45 Try.underlying3 Try.underlying4 (by kernel_rfl) ((x + t : Nat) : Int) ((i64_wf _).2 ⟨by omega, by omega⟩)
                    rw [comeF_get, decide_eq_false (by omega), Bool.false_or, hjc] at hlk
                    have hsc := heldT_succ f9 x t
                    obtain ⟨bh, hbh⟩ : ∃ y, (f9 (x + t)).isSome = y := ⟨_, rfl⟩
                    rw [hbh] at hlk hsc
                    have HSC := Lib.hid hsc
                    have HJC := Lib.hid hjc
                    clear hsc hjc
                    cases bh with
                    | false =>
                      go_wp2_with fail
                      go_roundw
                      case rel => exact ⟨t + 1, htl, by rw [HSC.out, if_neg (by simp), List.append_nil, HLN.out], by go_num, HMY.out⟩
                      case measure => simp [intOf]; omega
                    | true =>
                      have hnth := heldT_nth htl hbh
                      rw [HHS.out, HLH.out, HLN.out, HJC.out] at hnth
                      have hl1 := hnth.1
                      have z7 : decide ((lh : Int) ≤ (ln : Int)) = false := by simp; omega
                      have z8 : decide (lh ≤ ln) = false := by simp; omega
                      have hcell := hnth.2
                      obtain ⟨fb, fo, hpl, _⟩ := HO8.out.place (j := ln) hl1
                      have hix := fun wx => run_indexS (P := Try.prog) wx 22 3 iI 1 Try.underlying22 hiI hsI a8 lh c8 ln hl1 (HO8.out.some_ (by omega))
                      have ef := HO8.out.elem (j := ln) (u := .int .i64 ((x : Int) + (t : Int))) (by rw [List.getElem?_map, hcell]; rfl)
                      rw [hpl] at hix ef
                      have ef2 := HMY.out.cell ef (fun e => e)
                      have z9 : ((x : Int) + (t : Int) != (x : Int) + (t : Int)) = false := by simp
                      clear ef hpl hnth hcell
                      go_wp2_with fail
                      go_roundw
                      case rel => exact ⟨t + 1, htl, by rw [HSC.out, if_pos rfl, List.length_append, HLN.out]; rfl, by go_num, HMY.out⟩
                      case measure => simp [intOf]; omega
                  case neg =>
                    obtain rfl : M = t := by omega
                    have z5 : decide ((x : Int) + (M : Int) < (x : Int) + (M : Int)) = false := by simp
                    have z6 : decide (M < M) = false := by simp
                    have hll : ln = lh := by rw [← HLN.out, HHS.out, HLH.out]
                    subst hll
                    have HT9 := Lib.hid (HT8.out.keep HMY.out)
                    have HB9 := Lib.hid (HB8.out.keep HMY.out (fun e => e))
                    have HM9 := Lib.hid (HM8.out.of2 HMY.out)
                    have y1 : ((x : Int) != (x : Int)) = false := by simp
                    have y2 : ((ln : Int) != (ln : Int)) = false := by simp
                    go_wp2_with fail
                    refine (tknext_any wy p r M x f9 HT9.out).mono ?_
                    rintro e w' ⟨rfl, hw'⟩
                    subst hw'
                    go_wp2_with fail
                    go_roundw
                    case rel => exact ⟨i + 1, x, f9, by go_num, hlt, by omega, HT9.out, HFE.out, HB9.out, HM9.out⟩
                    case measure => simp [intOf]; omega
        · skip
          rw [z8] at hlk
          go_wp2_with fail
          go_loopw [9] (fun nv wr => ∃ x : Nat, N ≤ x ∧ x ≤ N ∧ nv = .int .i64 (x : Int) ∧ Mod (fun _ => False) w5 wr) (fun nv _ => N - (intOf nv).toNat)
          case atStart => exact ⟨N, Nat.le_refl _, Nat.le_refl _, rfl, Mod.refl _ _⟩
          case round =>
            obtain ⟨x, hx1, hx2, rfl, hmr⟩ := hrel
            obtain ⟨wx, hwx⟩ : ∃ y : World, y = wr := ⟨_, rfl⟩
            subst hwx
            have HMX := Lib.hid hmr
            clear hmr
            have hlk := (HB6.out.keep HMX.out (fun e => e)).look1 (t := 45) Try.underlying45 Try.underlying3 Try.underlying4 (by kernel_rfl) (x : Int) ((i64_wf _).2 ⟨by omega, by omega⟩)
            rw [comeF_get] at hlk
            by_cases hxl : x < N
            case pos =>
              rw [decide_eq_true hxl, Bool.true_or] at hlk
              go_wp2_with fail
              go_roundw
              case rel => exact ⟨x + 1, by omega, by omega, by go_num, HMX.out⟩
              case measure => simp [intOf]; omega
            case neg =>
              obtain rfl : x = N := by omega
              rw [decide_eq_false (Nat.lt_irrefl _), HFE.out] at hlk
              replace hlk : (Instr.lookup 45 (.map (some mb)) (.int .i64 (x : Int)) false).run Try.prog wx = .ok (.bool false) wx := hlk
              have HT7 := Lib.hid (HT6.out.keep HMX.out)
              have HB7 := Lib.hid (HB6.out.keep HMX.out (fun e => e))
              have HM7 := Lib.hid (HM6.out.of2 HMX.out)
              obtain ⟨f9, hf9⟩ : ∃ y, f = y := ⟨_, rfl⟩
              rw [hf9] at HT7 HB7 HFE
              clear hf9
              go_wp2_with fail
              clear hlk
              refine (tkheld_any wx p r M x f9 HT7.out (by omega)).mono ?_
              rintro e w8 ⟨a8, c8, rfl, ho8, hm8⟩
              obtain ⟨hs, hhs⟩ : ∃ y, heldT f9 x M = y := ⟨_, rfl⟩
              rw [hhs] at ho8 ⊢
              obtain ⟨lh, hlh⟩ : ∃ y, hs.length = y := ⟨_, rfl⟩
              rw [hlh] at ho8 ⊢
              have hlh16 : lh ≤ 16 := by have := heldT_len f9 x M; rw [hhs, hlh] at this; omega
              have HHS := Lib.hid hhs
              have HLH := Lib.hid hlh
              have HO8 := Lib.hid (Rd.ofOwn ho8)
              have HT8 := Lib.hid (HT7.out.keep hm8)
              have HB8 := Lib.hid (HB7.out.keep hm8 (fun e => e))
              have HM8 := Lib.hid (HM7.out.of2 hm8)
              clear hm8 ho8 hhs hlh HT7 HB7
              go_wp2_with fail
              go_loopw [15, 16] (fun nv jv wr => ∃ t : Nat, t ≤ M ∧ nv = .int .i64 ((heldT f9 x t).length : Int) ∧ jv = .int .i64 ((x : Int) + (t : Int)) ∧ Mod (fun _ => False) w8 wr) (fun _ jv _ => (x + M) - (intOf jv).toNat)
              case atStart => exact ⟨0, by omega, by simp [heldT], by simp, Mod.refl _ _⟩
              case round =>
                obtain ⟨t, ht, rfl, rfl, hmr⟩ := hrel
                obtain ⟨wy, hwy⟩ : ∃ y : World, y = wr := ⟨_, rfl⟩
                subst hwy
                have HMY := Lib.hid hmr
                clear hmr
                obtain ⟨ln, hln⟩ : ∃ y, (heldT f9 x t).length = y := ⟨_, rfl⟩
                rw [hln]
                have HLN := Lib.hid hln
                have hln16 : ln ≤ 16 := by have := heldT_len f9 x t; omega
                clear hln
                by_cases htl : t < M
                case pos =>
                  have z5 : decide ((x : Int) + (t : Int) < (x : Int) + (M : Int)) = true := by simp; omega
                  have z6 : decide (t < M) = true := by simp; omega
                  have hjc : ((x + t : Nat) : Int) = (x : Int) + (t : Int) := by omega
                  have hlk := (HB8.out.keep HMY.out (fun e => e)).look1 (t := 45) Try.underlying45 Try.underlying3 Try.underlying4 (by kernel_rfl) ((x + t : Nat) : Int) ((i64_wf _).2 ⟨by omega, by omega⟩)
                  rw [comeF_get, decide_eq_false (by omega), Bool.false_or, hjc] at hlk
                  have hsc := heldT_succ f9 x t
                  obtain ⟨bh, hbh⟩ : ∃ y, (f9 (x + t)).isSome = y := ⟨_, rfl⟩
                  rw [hbh] at hlk hsc
                  have HSC := Lib.hid hsc
                  have HJC := Lib.hid hjc
                  clear hsc hjc
                  cases bh with
                  | false =>
                    go_wp2_with fail
                    go_roundw
                    case rel => exact ⟨t + 1, htl, by rw [HSC.out, if_neg (by simp), List.append_nil, HLN.out], by go_num, HMY.out⟩
                    case measure => simp [intOf]; omega
                  | true =>
                    have hnth := heldT_nth htl hbh
                    rw [HHS.out, HLH.out, HLN.out, HJC.out] at hnth
                    have hl1 := hnth.1
                    have z7 : decide ((lh : Int) ≤ (ln : Int)) = false := by simp; omega
                    have z8 : decide (lh ≤ ln) = false := by simp; omega
                    have hcell := hnth.2
                    obtain ⟨fb, fo, hpl, _⟩ := HO8.out.place (j := ln) hl1
                    have hix := fun wx => run_indexS (P := Try.prog) wx 22 3 iI 1 Try.underlying22 hiI hsI a8 lh c8 ln hl1 (HO8.out.some_ (by omega))
                    have ef := HO8.out.elem (j := ln) (u := .int .i64 ((x : Int) + (t : Int))) (by rw [List.getElem?_map, hcell]; rfl)
                    rw [hpl] at hix ef
                    have ef2 := HMY.out.cell ef (fun e => e)
                    have z9 : ((x : Int) + (t : Int) != (x : Int) + (t : Int)) = false := by simp
                    clear ef hpl hnth hcell
                    go_wp2_with fail
                    go_roundw
                    case rel => exact ⟨t + 1, htl, by rw [HSC.out, if_pos rfl, List.length_append, HLN.out]; rfl, by go_num, HMY.out⟩
                    case measure => simp [intOf]; omega
                case neg =>
                  obtain rfl : M = t := by omega
                  have z5 : decide ((x : Int) + (M : Int) < (x : Int) + (M : Int)) = false := by simp
                  have z6 : decide (M < M) = false := by simp
                  have hll : ln = lh := by rw [← HLN.out, HHS.out, HLH.out]
                  subst hll
                  have HT9 := Lib.hid (HT8.out.keep HMY.out)
                  have HB9 := Lib.hid (HB8.out.keep HMY.out (fun e => e))
                  have HM9 := Lib.hid (HM8.out.of2 HMY.out)
                  have y1 : ((x : Int) != (x : Int)) = false := by simp
                  have y2 : ((ln : Int) != (ln : Int)) = false := by simp
                  go_wp2_with fail
                  refine (tknext_any wy p r M x f9 HT9.out).mono ?_
                  rintro e w' ⟨rfl, hw'⟩
                  subst hw'
                  go_wp2_with fail
                  go_roundw
                  case rel => exact ⟨i + 1, x, f9, by go_num, hlt, by omega, HT9.out, HFE.out, HB9.out, HM9.out⟩
                  case measure => simp [intOf]; omega
      case pos =>
        obtain ⟨hc1, hc2, hc3⟩ := hcan
        obtain ⟨k, hkk⟩ := Int.eq_ofNat_of_zero_le (show 0 ≤ kv by omega)
        subst hkk
        rw [Int.toNat_natCast] at hc3
        obtain ⟨by_, hby⟩ : ∃ y : Int, (k : Int) % 256 = y := ⟨_, rfl⟩
        have ht : Calls Try.prog 9 #[.pointer (some ⟨p, 0, none⟩), .int .i64 (k : Int), .slice (some ⟨wo.heap.size, 0, none⟩) 1 1] (wo.alloc (.cells #[.int .u8 ((k : Int) % 256)] 5)) (TakeP p r M N (putH f k [(k : Int) % 256]) wo) := tk_lit HTO.out (by omega) k ⟨by omega, by omega⟩ hc3 [(k : Int) % 256] 1 rfl (by omega)
        refine ht.mono ?_
        clear ht hby by_
        have hct := comeF_take (M := M) (b := [(k : Int) % 256]) HFN.out (show N ≤ k by omega)
        have hs1 := putH_sup (bs := [(k : Int) % 256]) HTO.out.sup (show N ≤ k ∧ k < N + M by omega)
        have hgk : comeF N f (k : Int) = none := by unfold comeF; rw [Int.toNat_natCast, hc3, if_neg]; rintro ⟨_, h | h⟩; omega; cases h
        obtain ⟨g, hg⟩ : ∃ g, putH f k [(k : Int) % 256] = g := ⟨_, rfl⟩
        rw [hg] at hs1 hct ⊢
        rintro e w5 ⟨a5, n5, c5, vs, rfl, hn5, hr5, hb5, hk5, hm5⟩
        have hen := runL_end g M N (fun s h => (hs1 s h).2)
        have hlen := runL_len g M N
        rw [hn5] at hct hen hlen
        have hfe : fromH g (N + n5) (N + n5) = none := by rw [fromH_at]; exact hen
        have HFE := Lib.hid hfe
        have HT5 := Lib.hid hk5
        have HM5 := Lib.hid (mod_pr HMR.out hm5 HP.out HR.out)
        have HB5 := Lib.hid (HBO.out.keep hm5 (fun e => by rcases e with e | e; exact hmp e; exact hmr2 e))
        have HCT := Lib.hid hct
        have hsup0 := HTO.out.sup
        have HSUP := Lib.hid hsup0
        clear hg hs1 hen hfe hk5 hm5 hr5 hb5 hn5 hct hsup0 HTO HBO
        have hlk := HB5.out.look1 (t := 45) Try.underlying45 Try.underlying3 Try.underlying4 (by kernel_rfl) (k : Int) hwf
        rw [hgk] at hlk
        replace hlk : (Instr.lookup 45 (.map (some mb)) (.int .i64 (k : Int)) false).run Try.prog w5 = .ok (.bool false) w5 := hlk
        clear hgk
        obtain ⟨w6, hst, hb6, hm6⟩ := HB5.out.store (t := 45) Try.underlying45 Try.underlying3 Try.underlying4 ((List.range (N + M)).map Int.ofNat) (comeF_keys HSUP.out) (by rw [List.length_map, List.length_range]; unfold maxLen; omega) (k : Int) true hwf
        rw [HCT.out] at hb6
        have HB6 := Lib.hid hb6
        have HT6 := Lib.hid (HT5.out.keepMap HB5.out hmp hmr2 hm6)
        have HM6 := Lib.hid (HM5.out.old hm6 (fun i hi => by have h1 := HMW.out; have h2 : i = mb := hi; omega))
        have z6 : decide ((N : Int) ≤ (k : Int)) = true := by simp; omega
        have z6b : decide (N ≤ k) = true := by simp; omega
        have z7 : decide ((k : Int) < (N : Int) + (M : Int)) = true := by simp; omega
        clear hb6 hm6
        go_wp2_with fail
        clear hlk hst
        go_loopw [9] (fun nv wr => ∃ x : Nat, N ≤ x ∧ x ≤ (N + n5) ∧ nv = .int .i64 (x : Int) ∧ Mod (fun _ => False) w6 wr) (fun nv _ => (N + n5) - (intOf nv).toNat)
        case atStart => exact ⟨N, Nat.le_refl _, by omega, rfl, Mod.refl _ _⟩
        case round =>
          obtain ⟨x, hx1, hx2, rfl, hmr⟩ := hrel
          obtain ⟨wx, hwx⟩ : ∃ y : World, y = wr := ⟨_, rfl⟩
          subst hwx
          have HMX := Lib.hid hmr
          clear hmr
          have hlk := (HB6.out.keep HMX.out (fun e => e)).look1 (t := 45) Try.underlying45 Try.underlying3 Try.underlying4 (by kernel_rfl) (x : Int) ((i64_wf _).2 ⟨by omega, by omega⟩)
          rw [comeF_get] at hlk
          by_cases hxl : x < (N + n5)
          case pos =>
            rw [decide_eq_true hxl, Bool.true_or] at hlk
            go_wp2_with fail
            go_roundw
            case rel => exact ⟨x + 1, by omega, by omega, by go_num, HMX.out⟩
            case measure => simp [intOf]; omega
          case neg =>
            obtain ⟨N3, hN3⟩ : ∃ y, (N + n5) = y := ⟨_, rfl⟩
            have hx3 : x = N3 := by omega
            rw [hN3] at HT6 HB6 HFE hlk hxl
            subst hx3
            have hx1 : N ≤ x := hx1
            rw [decide_eq_false (Nat.lt_irrefl _), HFE.out] at hlk
            replace hlk : (Instr.lookup 45 (.map (some mb)) (.int .i64 (x : Int)) false).run Try.prog wx = .ok (.bool false) wx := hlk
            have HT7 := Lib.hid (HT6.out.keep HMX.out)
            have HB7 := Lib.hid (HB6.out.keep HMX.out (fun e => e))
            have HM7 := Lib.hid (HM6.out.of2 HMX.out)
            obtain ⟨f9, hf9⟩ : ∃ y, fromH g x = y := ⟨_, rfl⟩
            rw [hf9] at HT7 HB7 HFE
            clear hf9
            go_wp2_with fail
            clear hlk
            refine (tkheld_any wx p r M x f9 HT7.out (by omega)).mono ?_
            rintro e w8 ⟨a8, c8, rfl, ho8, hm8⟩
            obtain ⟨hs, hhs⟩ : ∃ y, heldT f9 x M = y := ⟨_, rfl⟩
            rw [hhs] at ho8 ⊢
            obtain ⟨lh, hlh⟩ : ∃ y, hs.length = y := ⟨_, rfl⟩
            rw [hlh] at ho8 ⊢
            have hlh16 : lh ≤ 16 := by have := heldT_len f9 x M; rw [hhs, hlh] at this; omega
            have HHS := Lib.hid hhs
            have HLH := Lib.hid hlh
            have HO8 := Lib.hid (Rd.ofOwn ho8)
            have HT8 := Lib.hid (HT7.out.keep hm8)
            have HB8 := Lib.hid (HB7.out.keep hm8 (fun e => e))
            have HM8 := Lib.hid (HM7.out.of2 hm8)
            clear hm8 ho8 hhs hlh HT7 HB7
            go_wp2_with fail
            go_loopw [15, 16] (fun nv jv wr => ∃ t : Nat, t ≤ M ∧ nv = .int .i64 ((heldT f9 x t).length : Int) ∧ jv = .int .i64 ((x : Int) + (t : Int)) ∧ Mod (fun _ => False) w8 wr) (fun _ jv _ => (x + M) - (intOf jv).toNat)
            case atStart => exact ⟨0, by omega, by simp [heldT], by simp, Mod.refl _ _⟩
            case round =>
              obtain ⟨t, ht, rfl, rfl, hmr⟩ := hrel
              obtain ⟨wy, hwy⟩ : ∃ y : World, y = wr := ⟨_, rfl⟩
              subst hwy
              have HMY := Lib.hid hmr
              clear hmr
              obtain ⟨ln, hln⟩ : ∃ y, (heldT f9 x t).length = y := ⟨_, rfl⟩
              rw [hln]
              have HLN := Lib.hid hln
              have hln16 : ln ≤ 16 := by have := heldT_len f9 x t; omega
              clear hln
              by_cases htl : t < M
              case pos =>
                have z5 : decide ((x : Int) + (t : Int) < (x : Int) + (M : Int)) = true := by simp; omega
                have z6 : decide (t < M) = true := by simp; omega
                have hjc : ((x + t : Nat) : Int) = (x : Int) + (t : Int) := by omega
                have hlk := (HB8.out.keep HMY.out (fun e => e)).look1 (t := 45) Try.underlying45 Try.underlying3 Try.underlying4 (by kernel_rfl) ((x + t : Nat) : Int) ((i64_wf _).2 ⟨by omega, by omega⟩)
                rw [comeF_get, decide_eq_false (by omega), Bool.false_or, hjc] at hlk
                have hsc := heldT_succ f9 x t
                obtain ⟨bh, hbh⟩ : ∃ y, (f9 (x + t)).isSome = y := ⟨_, rfl⟩
                rw [hbh] at hlk hsc
                have HSC := Lib.hid hsc
                have HJC := Lib.hid hjc
                clear hsc hjc
                cases bh with
                | false =>
                  go_wp2_with fail
                  go_roundw
                  case rel => exact ⟨t + 1, htl, by rw [HSC.out, if_neg (by simp), List.append_nil, HLN.out], by go_num, HMY.out⟩
                  case measure => simp [intOf]; omega
                | true =>
                  have hnth := heldT_nth htl hbh
                  rw [HHS.out, HLH.out, HLN.out, HJC.out] at hnth
                  have hl1 := hnth.1
                  have z7 : decide ((lh : Int) ≤ (ln : Int)) = false := by simp; omega
                  have z8 : decide (lh ≤ ln) = false := by simp; omega
                  have hcell := hnth.2
                  obtain ⟨fb, fo, hpl, _⟩ := HO8.out.place (j := ln) hl1
                  have hix := fun wx => run_indexS (P := Try.prog) wx 22 3 iI 1 Try.underlying22 hiI hsI a8 lh c8 ln hl1 (HO8.out.some_ (by omega))
                  have ef := HO8.out.elem (j := ln) (u := .int .i64 ((x : Int) + (t : Int))) (by rw [List.getElem?_map, hcell]; rfl)
                  rw [hpl] at hix ef
                  have ef2 := HMY.out.cell ef (fun e => e)
                  have z9 : ((x : Int) + (t : Int) != (x : Int) + (t : Int)) = false := by simp
                  clear ef hpl hnth hcell
                  go_wp2_with fail
                  go_roundw
                  case rel => exact ⟨t + 1, htl, by rw [HSC.out, if_pos rfl, List.length_append, HLN.out]; rfl, by go_num, HMY.out⟩
                  case measure => simp [intOf]; omega
              case neg =>
                obtain rfl : M = t := by omega
                have z5 : decide ((x : Int) + (M : Int) < (x : Int) + (M : Int)) = false := by simp
                have z6 : decide (M < M) = false := by simp
                have hll : ln = lh := by rw [← HLN.out, HHS.out, HLH.out]
                subst hll
                have HT9 := Lib.hid (HT8.out.keep HMY.out)
                have HB9 := Lib.hid (HB8.out.keep HMY.out (fun e => e))
                have HM9 := Lib.hid (HM8.out.of2 HMY.out)
                have y1 : ((x : Int) != (x : Int)) = false := by simp
                have y2 : ((ln : Int) != (ln : Int)) = false := by simp
                go_wp2_with fail
                refine (tknext_any wy p r M x f9 HT9.out).mono ?_
                rintro e w' ⟨rfl, hw'⟩
                subst hw'
                go_wp2_with fail
                go_roundw
                case rel => exact ⟨i + 1, x, f9, by go_num, hlt, by omega, HT9.out, HFE.out, HB9.out, HM9.out⟩
                case measure => simp [intOf]; omega
theorem twin_law (w : World) (wv : Int) (_ : (Lit.int .i64 wv).wf = true) (a0 : Option Addr) (m c0 : Nat) (l : List Int) (ok : (encSlice (encInt .i64)).ok w (.slice a0 m c0, l)) :
    Calls Try.prog 5 #[.int .i64 wv, .slice a0 m c0] w fun e w' => e = .returned (.bool true) ∧ Below w.heap.size w w' := by
  obtain ⟨hn, hr, _⟩ := ok_ints ok
  exact (twin_all w wv a0 m c0 l hn hr).mono fun e w' h => ⟨h.1, h.2.below (Nat.le_refl _) (fun _ e => e.elim)⟩
end Go.Proofs.Ytffcoajodpfngaa
