/- TakerOnce walked. -/
import Derived.Test.YtffcoajodpfngaaAwake26
import Derived.Test.YtffcoajodpfngaaRound
import Derived.Test.YtffcoajodpfngaaIRowP
import Derived.Deep.DeepCutAuto
import Derived.Deep.CutBlock
namespace Go.Proofs.Ytffcoajodpfngaa
open Go.RowKit Mile
set_option maxRecDepth 100000
/-- Each body that is held is its number, and 7. -/
def Form7 (f : Hld) (n : Nat) : Prop := ∀ s b, f s = some b → s < n ∧ b = [(s : Int), 7]
theorem Form7.put {f : Hld} {n k : Nat} (h : Form7 f n) (hk : k < n) : Form7 (putH f k [(k : Int), 7]) n := fun s b hs => by
  unfold putH at hs
  by_cases e : s = k
  · rw [if_pos e] at hs; subst e; exact ⟨hk, (Option.some.inj hs).symm⟩
  · rw [if_neg e] at hs; exact h s b hs
theorem Form7.from_ {f : Hld} {n N : Nat} (h : Form7 f n) : Form7 (fromH f N) n := fun s b hs => h s b (fromH_some hs).2
theorem Form7.le {f : Hld} {n N M : Nat} (h : Form7 f n) (hN : N ≤ n) : N + (runL f M N).length ≤ n := by
  by_cases e : (runL f M N).length = 0
  · omega
  · have h1 := runL_at f M N ((runL f M N).length - 1) (by omega)
    have := (h _ _ h1).1
    omega
theorem Form7.at_ {f : Hld} {n N M j : Nat} (h : Form7 f n) (hj : j < (runL f M N).length) : (runL f M N)[j] = [((N + j : Nat) : Int), 7] := (h _ _ (runL_at f M N j hj)).2
theorem Form7.none_ {f : Hld} {n M : Nat} (h : Form7 f n) (hs : ∀ s, f s ≠ none → n ≤ s ∧ s < n + M) : ∀ s, f s = none := fun s => by
  cases e : f s with
  | none => rfl
  | some b => have h1 := (h s b e).1; have h2 := (hs s (by rw [e]; exact fun x => by cases x)).1; omega

set_option maxHeartbeats 64000000 in
theorem tonce_all (w : World) (wv nv : Int) (a0 : Option Addr) (m c0 : Nat) (l : List Int) (hm : l.length = m) (hr : Rd w 1 (.slice a0 m c0) m (l.map (Value.int .i64))) :
    Calls Try.prog 4 #[.int .i64 wv, .int .i64 nv, .slice a0 m c0] w fun e w' => e = .returned (.bool true) ∧ Mod (fun _ => False) w w' := by
  obtain ⟨iI, hiI, hzI, hsI, hbI⟩ := info_parts Tk.info3
  obtain ⟨iB, hiB, hzB, hsB, hbB⟩ := info_parts Tk.infoB
  obtain ⟨i0, hi8, hz0, hs8, hz2⟩ := info_parts Cl.info5
  by_cases a0 : wv < 1
  case pos =>
    have HS : Hid (Ev (Mod (fun _ => False) w) w) := Lib.hid (Ev.mod w)
    have z0 : decide (wv < 1) = true := by simp; omega
    go_enter Try.func4, Try.ntmps4
    go_wp2_with fail
    refine (awake26_any _).mono ?_
    rintro e wq1 ⟨rfl, hm⟩
    replace HS := Lib.hid (HS.out.step hm)
    clear hm
    go_wp2_with fail
    go_ret
    exact ⟨rfl, HS.out.now⟩
  by_cases a1 : 16 < wv
  case pos =>
    have HS : Hid (Ev (Mod (fun _ => False) w) w) := Lib.hid (Ev.mod w)
    have z0 : decide (wv < 1) = false := by simp; omega
    have z1 : decide (16 < wv) = true := by simp; omega
    go_enter Try.func4, Try.ntmps4
    go_wp2_with fail
    refine (awake26_any _).mono ?_
    rintro e wq2 ⟨rfl, hm⟩
    replace HS := Lib.hid (HS.out.step hm)
    clear hm
    go_wp2_with fail
    go_ret
    exact ⟨rfl, HS.out.now⟩
  by_cases a2 : nv < 0
  case pos =>
    have HS : Hid (Ev (Mod (fun _ => False) w) w) := Lib.hid (Ev.mod w)
    have z0 : decide (wv < 1) = false := by simp; omega
    have z1 : decide (16 < wv) = false := by simp; omega
    have z2 : decide (nv < 0) = true := by simp; omega
    go_enter Try.func4, Try.ntmps4
    go_wp2_with fail
    refine (awake26_any _).mono ?_
    rintro e wq3 ⟨rfl, hm⟩
    replace HS := Lib.hid (HS.out.step hm)
    clear hm
    go_wp2_with fail
    go_ret
    exact ⟨rfl, HS.out.now⟩
  by_cases a3 : 40 < nv
  case pos =>
    have HS : Hid (Ev (Mod (fun _ => False) w) w) := Lib.hid (Ev.mod w)
    have z0 : decide (wv < 1) = false := by simp; omega
    have z1 : decide (16 < wv) = false := by simp; omega
    have z2 : decide (nv < 0) = false := by simp; omega
    have z3 : decide (40 < nv) = true := by simp; omega
    go_enter Try.func4, Try.ntmps4
    go_wp2_with fail
    refine (awake26_any _).mono ?_
    rintro e wq4 ⟨rfl, hm⟩
    replace HS := Lib.hid (HS.out.step hm)
    clear hm
    go_wp2_with fail
    go_ret
    exact ⟨rfl, HS.out.now⟩
  by_cases a4 : 200 < m
  case pos =>
    have HS : Hid (Ev (Mod (fun _ => False) w) w) := Lib.hid (Ev.mod w)
    have z0 : decide (wv < 1) = false := by simp; omega
    have z1 : decide (16 < wv) = false := by simp; omega
    have z2 : decide (nv < 0) = false := by simp; omega
    have z3 : decide (40 < nv) = false := by simp; omega
    have z4 : decide (200 < (m : Int)) = true := by simp; omega
    go_enter Try.func4, Try.ntmps4
    go_wp2_with fail
    refine (awake26_any _).mono ?_
    rintro e wq5 ⟨rfl, hm⟩
    replace HS := Lib.hid (HS.out.step hm)
    clear hm
    go_wp2_with fail
    go_ret
    exact ⟨rfl, HS.out.now⟩
  obtain ⟨M, rfl⟩ := Int.eq_ofNat_of_zero_le (show 0 ≤ wv by omega)
  obtain ⟨n, rfl⟩ := Int.eq_ofNat_of_zero_le (show 0 ≤ nv by omega)
  have hM1 : 1 ≤ M := by omega
  have hM16 : M ≤ 16 := by omega
  have hn40 : n ≤ 40 := by omega
  have hm200 : m ≤ 200 := by omega
  have HS : Hid (Ev (Mod (fun _ => False) w) w) := Lib.hid (Ev.mod w)
  replace HS := Lib.hid ((Ev.rd hr).and HS.out)
  have HN := Lib.hid hm
  clear hr hm
  have z0 : decide ((M : Int) < 1) = false := by simp; omega
  have z1 : decide (16 < (M : Int)) = false := by simp; omega
  have z2 : decide ((n : Int) < 0) = false := by simp
  have z3 : decide (40 < (n : Int)) = false := by simp; omega
  have z4 : decide (200 < (m : Int)) = false := by simp; omega
  clear a0 a1 a2 a3 a4
  go_enter Try.func4, Try.ntmps4
  go_wp2_with fail
  refine (tknew_any _ M hM1 hM16).mono ?_
  rintro e w1 ⟨p, r, rfl, htk, hp, hr, hm1⟩
  have HTK := Lib.hid htk
  have HM1 := Lib.hid hm1
  have HP := Lib.hid hp
  have HR := Lib.hid hr
  clear htk hm1 hp hr z0 z1 z2 z3 z4
  have HSB := HS
  clear HS
  go_wp2_with fail
  go_loopw [9, 10] (fun gv iv wr => ∃ (i N : Nat) (f : Hld), gv = .int .i64 (N : Int) ∧ iv = .int .i64 (i : Int) ∧ i ≤ m + n ∧ TK wr p r M N f ∧ f N = none ∧ N ≤ n ∧ Form7 f n ∧ (m ≤ i → i - m ≤ N) ∧ Mod (fun _ => False) w wr) (fun _ iv _ => m + n - (intOf iv).toNat)
  case atStart => exact ⟨0, 0, fun _ => none, rfl, rfl, by omega, HTK.out, rfl, by omega, fun s b h => (by cases h), by omega, HM1.out⟩
  case round =>
    obtain ⟨i, N, f, rfl, rfl, hi, htk, hfN, hNn, hf7, him, hmr⟩ := hrel
    obtain ⟨wo, hwo⟩ : ∃ x : World, x = wr := ⟨_, rfl⟩
    subst hwo
    have HTO := Lib.hid htk
    have HFN := Lib.hid hfN
    have HF7 := Lib.hid hf7
    have HMR := Lib.hid hmr
    clear htk hfN hf7 hmr HTK HM1
    have HS := Lib.hid (HSB.out.step HMR.out)
    by_cases hlt : i < m + n
    case neg =>
      have z0 : decide ((i : Int) < (m : Int) + (n : Int)) = false := by simp; omega
      obtain rfl : N = n := by omega
      have z1 : ((N : Int) == (N : Int)) = true := by simp
      go_wp2_with fail
      refine (tkheld_any wo p r M N f HTO.out (by omega)).mono ?_
      rintro e w5 ⟨a5, c5, rfl, _, hm5⟩
      rw [heldT_all (HF7.out.none_ HTO.out.sup)]
      have HM5 := Lib.hid (HMR.out.of2 hm5)
      clear hm5
      go_wp2_with fail
      refine (awake26_any _).mono ?_
      rintro e w6 ⟨rfl, hm6⟩
      have HM6 := Lib.hid (HM5.out.of2 hm6)
      clear hm6
      go_wp2_with fail
      go_ret
      exact ⟨rfl, HM6.out⟩
    case pos =>
      have z0 : decide ((i : Int) < (m : Int) + (n : Int)) = true := by simp; omega
      by_cases him3 : i < m
      case neg =>
        have z1 : decide ((i : Int) < (m : Int)) = false := by simp; omega
        have z2 : decide (i < m) = false := by simp; omega
        obtain ⟨k, hk⟩ : ∃ k : Nat, (i : Int) - (m : Int) = (k : Int) := ⟨i - m, by omega⟩
        have hkn : k < n := by omega
        have hki : m ≤ i → k = i - m := by intro; omega
        have hk40 : k < 40 := by omega
        go_wp2_with fail
        by_cases hcan : N ≤ k ∧ k < N + M ∧ f k = none
        case neg =>
          have hno : (k : Int) < (N : Int) ∨ (N : Int) + (M : Int) ≤ (k : Int) ∨ ∃ s : Nat, (k : Int) = (s : Int) ∧ f s ≠ none := by
            by_cases q1 : N ≤ k
            · by_cases q2 : k < N + M
              · exact .inr (.inr ⟨k, rfl, fun e => hcan ⟨q1, q2, e⟩⟩)
              · exact .inr (.inl (by omega))
            · exact .inl (by omega)
          have him2 : m ≤ i + 1 → i + 1 - m ≤ N := by
            intro h1
            by_cases q : m ≤ i
            · have h2 := him q
              have h3 := hki q
              by_cases e : k = N
              · subst e; exact absurd ⟨Nat.le_refl _, by omega, HFN.out⟩ hcan
              · omega
            · omega
          clear hcan
          refine (tk_lit_no HTO.out (by omega) (k : Int) hno [.int .u8 (k : Int), .int .u8 7] 2).mono ?_
          rintro e w5 ⟨rfl, hm5⟩
          have HM5 := Lib.hid (HMR.out.of2 hm5)
          have HT5 := Lib.hid (HTO.out.keep hm5)
          clear hm5 hno HTO
          go_wp2_with fail
          go_loopw [9, 14] (fun gv jv wr => gv = .int .i64 (N : Int) ∧ jv = .int .i64 0 ∧ Mod (fun _ => False) w5 wr) (fun _ _ _ => 0)
          case atStart => exact ⟨rfl, rfl, Mod.refl _ _⟩
          case round =>
            obtain ⟨rfl, rfl, hmr⟩ := hrel
            have HMQ := Lib.hid hmr
            clear hmr
            have HTF := Lib.hid (HT5.out.keep HMQ.out)
            have HMF := Lib.hid (HM5.out.of2 HMQ.out)
            go_wp2_with fail
            refine (tknext_any wr p r M N f HTF.out).mono ?_
            rintro e w' ⟨rfl, hw'⟩
            subst hw'
            have y9 : ((N : Int) != (N : Int)) = false := by simp
            go_wp2_with fail
            have hlh := heldT_one (f := f) (N := N) (M := M) HFN.out (by omega)
            refine (tkheld_any wr p r M N f HTF.out (by omega)).mono ?_
            obtain ⟨lh, hlh2⟩ : ∃ x, (heldT f N M).length = x := ⟨_, rfl⟩
            rw [hlh2] at hlh
            rintro e w8 ⟨a8, c8, rfl, _, hm8⟩
            rw [hlh2]
            have zl : decide ((M : Int) ≤ (lh : Int)) = false := by simp; omega
            have zl2 : decide (M ≤ lh) = false := by simp; omega
            have HT8 := Lib.hid (HTF.out.keep hm8)
            have HM8 := Lib.hid (HMF.out.of2 hm8)
            clear hm8 hlh2
            go_wp2_with fail
            go_roundw
            case rel => exact ⟨i + 1, N, f, rfl, by go_num, by omega, HT8.out, HFN.out, hNn, HF7.out, him2, HM8.out⟩
            case measure => simp [intOf]; omega
        case pos =>
          obtain ⟨hc1, hc2, hc3⟩ := hcan
          have ht : Calls Try.prog 9 #[.pointer (some ⟨p, 0, none⟩), .int .i64 (k : Int), .slice (some ⟨wo.heap.size, 0, none⟩) 2 2] (wo.alloc (.cells #[.int .u8 (k : Int), .int .u8 7] 5)) (TakeP p r M N (putH f k [(k : Int), 7]) wo) := tk_lit HTO.out (by omega) k ⟨hc1, hc2⟩ hc3 [(k : Int), 7] 2 rfl (by omega)
          refine ht.mono ?_
          clear ht
          have hf1 := HF7.out.put (k := k) (by omega)
          have hs1 := putH_sup (bs := [(k : Int), 7]) HTO.out.sup ⟨hc1, hc2⟩
          have hmore : k = N → 1 ≤ (runL (putH f k [(k : Int), 7]) M N).length := by
            intro h
            obtain ⟨M2, rfl⟩ : ∃ M2, M = M2 + 1 := ⟨M - 1, by omega⟩
            exact runL_more _ _ _ [(k : Int), 7] (by unfold putH; rw [if_pos h.symm])
          obtain ⟨g, hg⟩ : ∃ g, putH f k [(k : Int), 7] = g := ⟨_, rfl⟩
          rw [hg] at hf1 hs1 hmore ⊢
          rintro e w5 ⟨a5, n5, c5, vs, rfl, hn5, hr5, hb5, hk5, hm5⟩
          have hle := hf1.le (M := M) hNn
          have hen := runL_end g M N (fun s h => (hs1 s h).2)
          obtain ⟨gs, hgs⟩ : ∃ gs, runL g M N = gs := ⟨_, rfl⟩
          have hat : ∀ (j : Nat) (hj : j < gs.length), gs[j] = [((N + j : Nat) : Int), 7] := by subst hgs; exact fun j hj => hf1.at_ hj
          rw [hgs] at hn5 hb5 hle hen hmore
          rw [hn5] at hle hen hmore
          have him2 : m ≤ i + 1 → i + 1 - m ≤ N + n5 := by
            intro h1
            by_cases q : m ≤ i
            · have h2 := him q
              have h3 := hki q
              by_cases e : k = N
              · have := hmore e; omega
              · omega
            · omega
          have hfe : fromH g (N + n5) (N + n5) = none := by rw [fromH_at]; exact hen
          have HFE := Lib.hid hfe
          have HF1 := Lib.hid (hf1.from_ (N := N + n5))
          have HT5 := Lib.hid hk5
          have HM5 := Lib.hid (mod_pr HMR.out hm5 HP.out HR.out)
          have HR5 := Lib.hid hr5
          have HB5 := Lib.hid hb5
          have HN5 := Lib.hid hn5
          have HAT := Lib.hid hat
          clear hgs hg hf1 hs1 hmore hen hat hfe hk5 hm5 hr5 hb5 hn5 HTO
          go_wp2_with fail
          go_loopw [9, 14] (fun gv jv wr => ∃ j : Nat, j ≤ n5 ∧ gv = .int .i64 ((N : Int) + (j : Int)) ∧ jv = .int .i64 (j : Int) ∧ Mod (fun _ => False) w5 wr) (fun _ jv _ => n5 - (intOf jv).toNat)
          case atStart => exact ⟨0, by omega, by simp, rfl, Mod.refl _ _⟩
          case round =>
            obtain ⟨j, hj, rfl, rfl, hmr⟩ := hrel
            obtain ⟨wq, hwq⟩ : ∃ x : World, x = wr := ⟨_, rfl⟩
            subst hwq
            have HMQ := Lib.hid hmr
            clear hmr
            by_cases hjl : j < n5
            case pos =>
              have z9 : decide ((j : Int) < (n5 : Int)) = true := by simp; omega
              obtain ⟨vj, hvj, aj, nj, cj, rfl, hnj, hrj, _⟩ := HB5.out.2 j (by rw [HN5.out]; exact hjl)
              have hgj := HAT.out j (by rw [HN5.out]; exact hjl)
              rw [hgj] at hnj hrj
              obtain rfl : 2 = nj := hnj
              replace hrj : Rd w5 1 (.slice aj 2 cj) 2 [.int .u8 ((N + j : Nat) : Int), .int .u8 7] := hrj
              obtain ⟨fb, fo, hpl, _⟩ := HR5.out.place (j := j) (by omega)
              have hix := fun wx => run_indexS (P := Try.prog) wx 31 23 iB 1 Try.underlying31 hiB hsB a5 n5 c5 j hjl (HR5.out.some_ (by omega))
              have ef := HR5.out.elem hvj
              rw [hpl] at hix ef
              have ef2 := HMQ.out.cell ef (fun e => e)
              obtain ⟨b0, o0, hp0, _⟩ := hrj.place (j := 0) (by omega)
              have h0 := fun wx => run_indexS (P := Try.prog) wx 23 5 i0 1 Try.underlying23 hi8 hs8 aj 2 cj 0 (by omega) (hrj.some_ (by omega))
              have k0 := HMQ.out.cell (hrj.elem (j := 0) rfl) (fun e => e)
              rw [hp0] at h0 k0
              obtain ⟨b1, o1, hp1, _⟩ := hrj.place (j := 1) (by omega)
              have h1 := fun wx => run_indexS (P := Try.prog) wx 23 5 i0 1 Try.underlying23 hi8 hs8 aj 2 cj 1 (by omega) (hrj.some_ (by omega))
              have k1 := HMQ.out.cell (hrj.elem (j := 1) rfl) (fun e => e)
              rw [hp1] at h1 k1
              replace h0 : ∀ wx, (Instr.indexAt 23 (.slice aj 2 cj) (.int .i64 0)).run Try.prog wx = .ok (.pointer (some ⟨b0, o0, none⟩)) wx := h0
              replace h1 : ∀ wx, (Instr.indexAt 23 (.slice aj 2 cj) (.int .i64 1)).run Try.prog wx = .ok (.pointer (some ⟨b1, o1, none⟩)) wx := h1
              have hcast : ((N + j : Nat) : Int) = (N : Int) + (j : Int) := by omega
              rw [hcast] at k0
              have hjn : N + j < 40 := by omega
              have y0 : ((N : Int) + (j : Int) != (N : Int) + (j : Int)) = false := by simp
              clear hp0 hp1 hpl hcast hvj hrj hgj ef
              go_wp2_with fail
              go_roundw
              case rel => exact ⟨j + 1, hjl, by go_num, by go_num, HMQ.out⟩
              case measure => simp [intOf]; omega
            case neg =>
              obtain rfl : n5 = j := by omega
              have z9 : decide ((n5 : Int) < (n5 : Int)) = false := by simp
              have HTF := Lib.hid (HT5.out.keep HMQ.out)
              have HMF := Lib.hid (HM5.out.of2 HMQ.out)
              go_wp2_with fail
              have hnx := tknext_any wq p r M (N + n5) (fromH g (N + n5)) HTF.out
              rw [show ((N + n5 : Nat) : Int) = (N : Int) + (n5 : Int) by omega] at hnx
              refine hnx.mono ?_
              clear hnx
              rintro e w' ⟨rfl, hw'⟩
              subst hw'
              have y9 : ((N : Int) + (n5 : Int) != (N : Int) + (n5 : Int)) = false := by simp
              go_wp2_with fail
              have hlh := heldT_one (f := (fromH g (N + n5))) (N := (N + n5)) (M := M) HFE.out (by omega)
              refine (tkheld_any wq p r M (N + n5) (fromH g (N + n5)) HTF.out (by omega)).mono ?_
              obtain ⟨lh, hlh2⟩ : ∃ x, (heldT (fromH g (N + n5)) (N + n5) M).length = x := ⟨_, rfl⟩
              rw [hlh2] at hlh
              rintro e w8 ⟨a8, c8, rfl, _, hm8⟩
              rw [hlh2]
              have zl : decide ((M : Int) ≤ (lh : Int)) = false := by simp; omega
              have zl2 : decide (M ≤ lh) = false := by simp; omega
              have HT8 := Lib.hid (HTF.out.keep hm8)
              have HM8 := Lib.hid (HMF.out.of2 hm8)
              clear hm8 hlh2
              go_wp2_with fail
              go_roundw
              case rel => exact ⟨i + 1, (N + n5), (fromH g (N + n5)), by go_num, by go_num, by omega, HT8.out, HFE.out, hle, HF1.out, him2, HM8.out⟩
              case measure => simp [intOf]; omega
      case pos =>
        have z1 : decide ((i : Int) < (m : Int)) = true := by simp; omega
        have z2 : decide (i < m) = true := by simp; omega
        have hil : i < l.length := by rw [HN.out]; exact him3
        obtain ⟨lx, HLX0⟩ : ∃ qz, l[i] = qz := ⟨_, rfl⟩
        have HLX := Lib.hid HLX0
        clear HLX0
        obtain ⟨f0b, f0o, hpl, e0⟩ := rd1 (HS.out.now).1 i hil
        have hix := fun wx => run_indexS (P := Try.prog) wx 22 3 iI 1 Try.underlying22 hiI hsI a0 m c0 i him3 ((HS.out.now).1.some_ (by have := him3; omega))
        rw [hpl] at hix
        have HIf0 := Lib.hid hix
        clear hix hpl
        rw [HLX.out] at e0
        replace HS := Lib.hid ((Ev.cell e0).and HS.out)
        clear e0
        have qf := (HS.out.now).1
        have hix1 := HIf0.out
        go_wp2_with fail
        refine (round_any lx ((n : Int) + 1) _ (by omega) (by omega)).mono ?_
        rintro e w' ⟨rfl, rfl⟩
        have hr0 := Int.emod_nonneg lx (b := (n : Int) + 1) (by omega)
        have hr1 := Int.emod_lt_of_pos lx (b := (n : Int) + 1) (by omega)
        obtain ⟨k, hk⟩ := Int.eq_ofNat_of_zero_le hr0
        rw [hk] at hr1 ⊢
        have HK := Lib.hid hk
        clear hk hr0
        by_cases hkn : k = n
        case pos =>
          have z3 : ((k : Int) == (n : Int)) = true := by rw [hkn]; simp
          go_wp2_with fail
          go_roundw
          case rel => exact ⟨i + 1, N, f, rfl, by go_num, by omega, HTO.out, HFN.out, hNn, HF7.out, by omega, HMR.out⟩
          case measure => simp [intOf]; omega
        case neg =>
          have z3 : ((k : Int) == (n : Int)) = false := by simp; omega
          have hkn2 : k < n := by omega
          have hki : m ≤ i → k = i - m := by intro; omega
          have hk40 : k < 40 := by omega
          go_wp2_with fail
          by_cases hcan : N ≤ k ∧ k < N + M ∧ f k = none
          case neg =>
            have hno : (k : Int) < (N : Int) ∨ (N : Int) + (M : Int) ≤ (k : Int) ∨ ∃ s : Nat, (k : Int) = (s : Int) ∧ f s ≠ none := by
              by_cases q1 : N ≤ k
              · by_cases q2 : k < N + M
                · exact .inr (.inr ⟨k, rfl, fun e => hcan ⟨q1, q2, e⟩⟩)
                · exact .inr (.inl (by omega))
              · exact .inl (by omega)
            have him2 : m ≤ i + 1 → i + 1 - m ≤ N := by
              intro h1
              by_cases q : m ≤ i
              · have h2 := him q
                have h3 := hki q
                by_cases e : k = N
                · subst e; exact absurd ⟨Nat.le_refl _, by omega, HFN.out⟩ hcan
                · omega
              · omega
            clear hcan
            refine (tk_lit_no HTO.out (by omega) (k : Int) hno [.int .u8 (k : Int), .int .u8 7] 2).mono ?_
            rintro e w5 ⟨rfl, hm5⟩
            have HM5 := Lib.hid (HMR.out.of2 hm5)
            have HT5 := Lib.hid (HTO.out.keep hm5)
            clear hm5 hno HTO
            go_wp2_with fail
            go_loopw [9, 14] (fun gv jv wr => gv = .int .i64 (N : Int) ∧ jv = .int .i64 0 ∧ Mod (fun _ => False) w5 wr) (fun _ _ _ => 0)
            case atStart => exact ⟨rfl, rfl, Mod.refl _ _⟩
            case round =>
              obtain ⟨rfl, rfl, hmr⟩ := hrel
              have HMQ := Lib.hid hmr
              clear hmr
              have HTF := Lib.hid (HT5.out.keep HMQ.out)
              have HMF := Lib.hid (HM5.out.of2 HMQ.out)
              go_wp2_with fail
              refine (tknext_any wr p r M N f HTF.out).mono ?_
              rintro e w' ⟨rfl, hw'⟩
              subst hw'
              have y9 : ((N : Int) != (N : Int)) = false := by simp
              go_wp2_with fail
              have hlh := heldT_one (f := f) (N := N) (M := M) HFN.out (by omega)
              refine (tkheld_any wr p r M N f HTF.out (by omega)).mono ?_
              obtain ⟨lh, hlh2⟩ : ∃ x, (heldT f N M).length = x := ⟨_, rfl⟩
              rw [hlh2] at hlh
              rintro e w8 ⟨a8, c8, rfl, _, hm8⟩
              rw [hlh2]
              have zl : decide ((M : Int) ≤ (lh : Int)) = false := by simp; omega
              have zl2 : decide (M ≤ lh) = false := by simp; omega
              have HT8 := Lib.hid (HTF.out.keep hm8)
              have HM8 := Lib.hid (HMF.out.of2 hm8)
              clear hm8 hlh2
              go_wp2_with fail
              go_roundw
              case rel => exact ⟨i + 1, N, f, rfl, by go_num, by omega, HT8.out, HFN.out, hNn, HF7.out, him2, HM8.out⟩
              case measure => simp [intOf]; omega
          case pos =>
            obtain ⟨hc1, hc2, hc3⟩ := hcan
            have ht : Calls Try.prog 9 #[.pointer (some ⟨p, 0, none⟩), .int .i64 (k : Int), .slice (some ⟨wo.heap.size, 0, none⟩) 2 2] (wo.alloc (.cells #[.int .u8 (k : Int), .int .u8 7] 5)) (TakeP p r M N (putH f k [(k : Int), 7]) wo) := tk_lit HTO.out (by omega) k ⟨hc1, hc2⟩ hc3 [(k : Int), 7] 2 rfl (by omega)
            refine ht.mono ?_
            clear ht
            have hf1 := HF7.out.put (k := k) (by omega)
            have hs1 := putH_sup (bs := [(k : Int), 7]) HTO.out.sup ⟨hc1, hc2⟩
            have hmore : k = N → 1 ≤ (runL (putH f k [(k : Int), 7]) M N).length := by
              intro h
              obtain ⟨M2, rfl⟩ : ∃ M2, M = M2 + 1 := ⟨M - 1, by omega⟩
              exact runL_more _ _ _ [(k : Int), 7] (by unfold putH; rw [if_pos h.symm])
            obtain ⟨g, hg⟩ : ∃ g, putH f k [(k : Int), 7] = g := ⟨_, rfl⟩
            rw [hg] at hf1 hs1 hmore ⊢
            rintro e w5 ⟨a5, n5, c5, vs, rfl, hn5, hr5, hb5, hk5, hm5⟩
            have hle := hf1.le (M := M) hNn
            have hen := runL_end g M N (fun s h => (hs1 s h).2)
            obtain ⟨gs, hgs⟩ : ∃ gs, runL g M N = gs := ⟨_, rfl⟩
            have hat : ∀ (j : Nat) (hj : j < gs.length), gs[j] = [((N + j : Nat) : Int), 7] := by subst hgs; exact fun j hj => hf1.at_ hj
            rw [hgs] at hn5 hb5 hle hen hmore
            rw [hn5] at hle hen hmore
            have him2 : m ≤ i + 1 → i + 1 - m ≤ N + n5 := by
              intro h1
              by_cases q : m ≤ i
              · have h2 := him q
                have h3 := hki q
                by_cases e : k = N
                · have := hmore e; omega
                · omega
              · omega
            have hfe : fromH g (N + n5) (N + n5) = none := by rw [fromH_at]; exact hen
            have HFE := Lib.hid hfe
            have HF1 := Lib.hid (hf1.from_ (N := N + n5))
            have HT5 := Lib.hid hk5
            have HM5 := Lib.hid (mod_pr HMR.out hm5 HP.out HR.out)
            have HR5 := Lib.hid hr5
            have HB5 := Lib.hid hb5
            have HN5 := Lib.hid hn5
            have HAT := Lib.hid hat
            clear hgs hg hf1 hs1 hmore hen hat hfe hk5 hm5 hr5 hb5 hn5 HTO
            go_wp2_with fail
            go_loopw [9, 14] (fun gv jv wr => ∃ j : Nat, j ≤ n5 ∧ gv = .int .i64 ((N : Int) + (j : Int)) ∧ jv = .int .i64 (j : Int) ∧ Mod (fun _ => False) w5 wr) (fun _ jv _ => n5 - (intOf jv).toNat)
            case atStart => exact ⟨0, by omega, by simp, rfl, Mod.refl _ _⟩
            case round =>
              obtain ⟨j, hj, rfl, rfl, hmr⟩ := hrel
              obtain ⟨wq, hwq⟩ : ∃ x : World, x = wr := ⟨_, rfl⟩
              subst hwq
              have HMQ := Lib.hid hmr
              clear hmr
              by_cases hjl : j < n5
              case pos =>
                have z9 : decide ((j : Int) < (n5 : Int)) = true := by simp; omega
                obtain ⟨vj, hvj, aj, nj, cj, rfl, hnj, hrj, _⟩ := HB5.out.2 j (by rw [HN5.out]; exact hjl)
                have hgj := HAT.out j (by rw [HN5.out]; exact hjl)
                rw [hgj] at hnj hrj
                obtain rfl : 2 = nj := hnj
                replace hrj : Rd w5 1 (.slice aj 2 cj) 2 [.int .u8 ((N + j : Nat) : Int), .int .u8 7] := hrj
                obtain ⟨fb, fo, hpl, _⟩ := HR5.out.place (j := j) (by omega)
                have hix := fun wx => run_indexS (P := Try.prog) wx 31 23 iB 1 Try.underlying31 hiB hsB a5 n5 c5 j hjl (HR5.out.some_ (by omega))
                have ef := HR5.out.elem hvj
                rw [hpl] at hix ef
                have ef2 := HMQ.out.cell ef (fun e => e)
                obtain ⟨b0, o0, hp0, _⟩ := hrj.place (j := 0) (by omega)
                have h0 := fun wx => run_indexS (P := Try.prog) wx 23 5 i0 1 Try.underlying23 hi8 hs8 aj 2 cj 0 (by omega) (hrj.some_ (by omega))
                have k0 := HMQ.out.cell (hrj.elem (j := 0) rfl) (fun e => e)
                rw [hp0] at h0 k0
                obtain ⟨b1, o1, hp1, _⟩ := hrj.place (j := 1) (by omega)
                have h1 := fun wx => run_indexS (P := Try.prog) wx 23 5 i0 1 Try.underlying23 hi8 hs8 aj 2 cj 1 (by omega) (hrj.some_ (by omega))
                have k1 := HMQ.out.cell (hrj.elem (j := 1) rfl) (fun e => e)
                rw [hp1] at h1 k1
                replace h0 : ∀ wx, (Instr.indexAt 23 (.slice aj 2 cj) (.int .i64 0)).run Try.prog wx = .ok (.pointer (some ⟨b0, o0, none⟩)) wx := h0
                replace h1 : ∀ wx, (Instr.indexAt 23 (.slice aj 2 cj) (.int .i64 1)).run Try.prog wx = .ok (.pointer (some ⟨b1, o1, none⟩)) wx := h1
                have hcast : ((N + j : Nat) : Int) = (N : Int) + (j : Int) := by omega
                rw [hcast] at k0
                have hjn : N + j < 40 := by omega
                have y0 : ((N : Int) + (j : Int) != (N : Int) + (j : Int)) = false := by simp
                clear hp0 hp1 hpl hcast hvj hrj hgj ef
                go_wp2_with fail
                go_roundw
                case rel => exact ⟨j + 1, hjl, by go_num, by go_num, HMQ.out⟩
                case measure => simp [intOf]; omega
              case neg =>
                obtain rfl : n5 = j := by omega
                have z9 : decide ((n5 : Int) < (n5 : Int)) = false := by simp
                have HTF := Lib.hid (HT5.out.keep HMQ.out)
                have HMF := Lib.hid (HM5.out.of2 HMQ.out)
                go_wp2_with fail
                have hnx := tknext_any wq p r M (N + n5) (fromH g (N + n5)) HTF.out
                rw [show ((N + n5 : Nat) : Int) = (N : Int) + (n5 : Int) by omega] at hnx
                refine hnx.mono ?_
                clear hnx
                rintro e w' ⟨rfl, hw'⟩
                subst hw'
                have y9 : ((N : Int) + (n5 : Int) != (N : Int) + (n5 : Int)) = false := by simp
                go_wp2_with fail
                have hlh := heldT_one (f := (fromH g (N + n5))) (N := (N + n5)) (M := M) HFE.out (by omega)
                refine (tkheld_any wq p r M (N + n5) (fromH g (N + n5)) HTF.out (by omega)).mono ?_
                obtain ⟨lh, hlh2⟩ : ∃ x, (heldT (fromH g (N + n5)) (N + n5) M).length = x := ⟨_, rfl⟩
                rw [hlh2] at hlh
                rintro e w8 ⟨a8, c8, rfl, _, hm8⟩
                rw [hlh2]
                have zl : decide ((M : Int) ≤ (lh : Int)) = false := by simp; omega
                have zl2 : decide (M ≤ lh) = false := by simp; omega
                have HT8 := Lib.hid (HTF.out.keep hm8)
                have HM8 := Lib.hid (HMF.out.of2 hm8)
                clear hm8 hlh2
                go_wp2_with fail
                go_roundw
                case rel => exact ⟨i + 1, (N + n5), (fromH g (N + n5)), by go_num, by go_num, by omega, HT8.out, HFE.out, hle, HF1.out, him2, HM8.out⟩
                case measure => simp [intOf]; omega
theorem tonce_law (w : World) (wv : Int) (_ : (Lit.int .i64 wv).wf = true) (nv : Int) (_ : (Lit.int .i64 nv).wf = true) (a0 : Option Addr) (m c0 : Nat) (l : List Int) (ok : (encSlice (encInt .i64)).ok w (.slice a0 m c0, l)) :
    Calls Try.prog 4 #[.int .i64 wv, .int .i64 nv, .slice a0 m c0] w fun e w' => e = .returned (.bool true) ∧ Below w.heap.size w w' := by
  obtain ⟨hn, hr, _⟩ := ok_ints ok
  exact (tonce_all w wv nv a0 m c0 l hn hr).mono fun e w' h => ⟨h.1, h.2.below (Nat.le_refl _) (fun _ e => e.elim)⟩
end Go.Proofs.Ytffcoajodpfngaa
