/- Law 15's awake. -/
import Derived.Test.YtepnlijdnabllaaKMd
import Derived.Test.YtepnlijdnabllaaRRk
namespace Go.Proofs.Ytepnlijdnabllaa
open Go.RowKit Mile
set_option maxRecDepth 100000
theorem arcsL_w15 (n : Int) (T : List T3) : ∀ a ∈ arcsR n T, a.w ≤ 65535 := by
  intro b hb
  unfold arcsR at hb
  split at hb
  · obtain ⟨x, _, hx⟩ := List.mem_flatMap.1 hb
    unfold arcT at hx
    split at hx
    · cases hx
    · rw [List.mem_singleton] at hx
      subst hx
      have g6 := Int.emod_lt_of_pos x.2.2 (b := 20) (by omega)
      simp only; omega
  · cases hb
theorem mem_putAll15 (A : List Ar) : ∀ (L : List Ar) (b : Ar), b ∈ A.foldl putN L → b ∈ L ∨ b ∈ A := by
  induction A with
  | nil => intro L b hb; exact .inl hb
  | cons a A ih =>
    intro L b hb
    rcases ih (putN L a) b hb with h | h
    · unfold putN at h
      split at h
      · rcases mem_newN.1 h with rfl | ⟨h, _⟩
        · exact .inr List.mem_cons_self
        · exact .inl h
      · exact .inl h
    · exact .inr (List.mem_cons_of_mem _ h)
theorem net15 (n : Nat) (T : List T3) : ∀ a ∈ putAllN (arcsR (n : Int) T), a.w ≤ 65535 := fun a ha => arcsL_w15 (n : Int) T a ((mem_putAll15 _ [] a ha).elim (fun h => by cases h) id)
def fixB15 (n : Nat) (L : List Ar) (fr wo : Int) (d : List Int) : Bool :=
  decide (d.length = n) && d.all (fun x => decide (-1 ≤ x)) && (List.range n).all (fun e => decide (¬ ((e : Int) = fr ∧ fr ≠ wo) ∨ dAt d e = 0)) &&
  (List.range n).all (fun e => decide (dAt d e < 0 ∨ ((e : Int) = fr ∧ fr ≠ wo ∧ dAt d e = 0)) || L.any (fun a => decide (a.t = e ∧ a.t ≠ wo ∧ 0 ≤ dAt d a.f.toNat ∧ dAt d e = dAt d a.f.toNat + a.w))) &&
  L.all (fun a => decide (a.t = wo ∨ dAt d a.f.toNat < 0 ∨ (0 ≤ dAt d a.t.toNat ∧ dAt d a.t.toNat ≤ dAt d a.f.toNat + a.w)))
theorem fix_of15 {n : Nat} {L : List Ar} {fr wo : Int} {d : List Int} (hok : NetOk n L) (hw : ∀ a ∈ L, a.w ≤ 65535) (h : fixB15 n L fr wo d = true) : Fix (netW n L fr wo) d := by
  unfold fixB15 at h
  simp only [Bool.and_eq_true, Bool.or_eq_true, List.all_eq_true, List.any_eq_true, decide_eq_true_eq, List.mem_range] at h
  obtain ⟨⟨⟨⟨h1, h2⟩, h3⟩, h4⟩, h5⟩ := h
  refine ⟨h1, fun e => ?_, fun e he hm => ?_, fun e h0 => ?_, fun e b hr hb => ?_⟩
  · by_cases he : e < d.length
    · rw [dAt_eq d e he]; exact h2 _ (List.getElem_mem he)
    · rw [dAt_out d e (by omega)]; omega
  · exact (h3 e hm).elim (fun x => absurd he x) id
  · have he : e < n := by rw [← h1]; exact dAt_in h0
    rcases h4 e he with (h6 | h6) | ⟨a, ha, h6, h7, h8, h9⟩
    · omega
    · exact .inl ⟨⟨h6.1, h6.2.1⟩, h6.2.2⟩
    · have hm := hok.may a ha
      unfold mayA at hm
      have hf : a.f = (a.f.toNat : Nat) := by omega
      exact .inr ⟨a.f.toNat, netW_rl hok hw ha h6 hf h7, h8, by rw [netW_wt hok.sort ha h6 hf]; exact h9⟩
  · obtain ⟨a, ha, ht, hf, hwo, hwt⟩ := netW_inv hr
    rw [hwt]
    have e1 : a.f.toNat = b := by omega
    have e2 : a.t.toNat = e := by omega
    rcases h5 a ha with h6 | h6 | h6
    · exact absurd h6 hwo
    · rw [e1] at h6; omega
    · rw [e1, e2] at h6; exact h6
def la15 : List Ar := [⟨0, 1, 1, -1⟩, ⟨1, 2, 1, -1⟩]
theorem la15_eq : putAllN (arcsR ((3 : Nat) : Int) [(0, 1, 0), (1, 2, 0)]) = la15 := by kernel_rfl
theorem la15_w : ∀ a ∈ la15, a.w ≤ 65535 := by decide
theorem la15_f : fixB15 3 la15 0 1 [0, -1, -1] = true := by decide
section
variable {D : Nat → Int → List Int}
theorem la15_sc (hok : NetOk 3 la15) (hD : DOk 3 la15 D) : scR D la15 1 = [⟨0, 2, 2, 1⟩] := by
  have h01 : D 0 1 = [0, -1, -1] := (hD 0 1).uniq (fix_of15 hok la15_w la15_f)
  have e : ovB D 1 ⟨0, 1, 1, -1⟩ ⟨1, 2, 1, -1⟩ = false := by
    show foundB (D 0 1) 2 (1 + 1) 30 = false
    rw [h01]; decide
  show (([⟨0, 1, 1, -1⟩] : List Ar).flatMap fun a => ((([⟨1, 2, 1, -1⟩] : List Ar).filter fun b => !(ovB D 1 a b)).map fun b => (⟨a.f, b.t, a.w + b.w, 1⟩ : Ar))) = _
  simp [e]
theorem la15_w1 (hok : NetOk 3 la15) (hD : DOk 3 la15 D) : wthR D la15 1 = -1 := by unfold wthR; rw [la15_sc hok hD]; decide
theorem la15_w0 : wthR D la15 0 = -1 := by
  have h : scR D la15 0 = [] := rfl
  unfold wthR; rw [h]; decide
theorem la15_w2 : wthR D la15 2 = -1 := by
  have h : scR D la15 2 = [] := rfl
  unfold wthR; rw [h]; decide
theorem la15_fi (hok : NetOk 3 la15) (hD : DOk 3 la15 D) : (firN (fun v => wthR D la15 (v : Int)) (gonB []) 3).1 = 0 := by
  have h1 := la15_w1 hok hD
  rw [firN_step, firN_step, firN_step]
  unfold firT
  simp [gonB, firN, la15_w0, h1, la15_w2]
theorem la15_no : (firN (fun v => wthR D la15 (v : Int)) (gonB [true, true, true]) 3).1 = -1 := by
  rw [firN_step, firN_step, firN_step]
  unfold firT
  simp [gonB, firN]
end
set_option maxHeartbeats 2000000 in
theorem rest_first_nil (w : World) (p q : Nat) (gl gc : Nat) (ga : Option Addr) (b1 : w.cell? ⟨p, 1, none⟩ = some (.slice (some ⟨q, 0, none⟩) 0 0)) : Calls Try.prog 34 #[.pointer (some ⟨p, 0, none⟩), .slice ga gl gc] w fun e w' => e = .returned (.int .i64 (-1)) ∧ Mod (fun _ => False) w w' := by
  go_enter Try.func34, Try.ntmps34
  go_wp2_with fail
  go_loopw [14, 5, 6] (fun i x y wr => i = .int .i64 0 ∧ x = .int .i64 (-1) ∧ wr = w) (fun _ _ _ _ => 0)
  case atStart => exact ⟨rfl, rfl, rfl⟩
  case round =>
    obtain ⟨rfl, rfl, rfl⟩ := hrel
    go_wp2_with fail
    go_ret
    exact ⟨rfl, Mod.refl _ _⟩
set_option maxHeartbeats 2000000 in
theorem rk_first_nil (w : World) : Calls Try.prog 15 #[.pointer none, .slice none 0 0] w fun e w' => e = .returned (.int .i64 (-1)) ∧ Mod (fun _ => False) w w' := by
  have HB : Hid (Calls Try.prog 30 #[.pointer none] w fun e w' => ∃ p q, e = .returned (.pointer (some ⟨p, 0, none⟩)) ∧ w'.cell? ⟨p, 1, none⟩ = some (.slice (some ⟨q, 0, none⟩) 0 0) ∧ Mod (fun _ => False) w w') := Lib.hid (by
    obtain ⟨iN, hiN, hzN, hsN, hbN⟩ := info_parts infoNr
    have hmk : ∀ wx, (Instr.makeSlice 72 (.int .i64 0) (.int .i64 0)).run Try.prog wx = .ok (.slice (some ⟨wx.heap.size, 0, none⟩) 0 0) (wx.alloc (.cells (madeCells #[Value.slice none 0 0, Value.map none] 0) 99)) := fun wx => by
      have h := run_make (P := Try.prog) (w := wx) 72 99 iN (.agg #[.slice none 0 0, .map none]) Try.underlying72 hiN hzN .i64 .i64 0 0 (by omega) (Int.le_refl _) (by rw [hbN]; omega) (by omega)
      rw [hsN, show (Value.agg #[.slice none 0 0, .map none]).cells = #[Value.slice none 0 0, Value.map none] from rfl] at h
      simpa using h
    go_enter Try.func30, Try.ntmps30
    go_wp2_with fail
    refine (nt_len_nil _).mono ?_
    rintro e w' ⟨rfl, rfl⟩
    go_wp2_with fail
    go_ret
    refine ⟨w.heap.size + 1, w.heap.size, rfl, ?_, (Mod.alloc _ _ _).of2 (Mod.alloc _ _ _)⟩
    have h := (Blk.new (w.alloc (.cells (madeCells #[Value.slice none 0 0, Value.map none] 0) 99)) 75 [.pointer none, .slice (some ⟨w.heap.size, 0, none⟩) 0 0]).cell 1 rfl
    rw [heap_size_alloc] at h
    exact h)
  go_enter Try.func15, Try.ntmps15
  go_wp2_with fail
  refine HB.out.mono ?_
  rintro e w1 ⟨p, q, rfl, hc, hm⟩
  have HS := Lib.hid (rest_first_nil w1 p q 0 0 none hc)
  have HM := Lib.hid hm
  clear hc hm
  go_wp2_with fail
  refine HS.out.mono ?_
  rintro e w2 ⟨rfl, hm2⟩
  have HM2 := Lib.hid (HM.out.of2 hm2)
  clear hm2
  go_wp2_with fail
  go_ret
  exact ⟨rfl, HM2.out⟩
set_option maxHeartbeats 16000000 in
theorem awake15_any (w : World) : Calls Try.prog 8 #[] w fun e w' => e = .returned (.bool true) ∧ Mod (fun _ => False) w w' := by
  obtain ⟨iA, hiA, hzA, hsA, hbA⟩ := info_parts Nt.infoA
  have HMD := Lib.hid (fun W a c hr => made15_any W 3 (by omega) a 2 c [(0, 1, 0), (1, 2, 0)] rfl hr (by omega))
  obtain ⟨D, hD⟩ := DOk.ex 3 (by omega) la15
  have HD := Lib.hid hD
  clear hD
  go_enter Try.func8, Try.ntmps8
  go_wp2_with fail
  refine (HMD.out _ _ 2 (by exact Rd.litN 47 3 [.int .i64 0, .int .i64 1, .int .i64 0, .int .i64 1, .int .i64 2, .int .i64 0] (0, 0) _ 2 (by first | rfl | simp) rfl (by decide))).mono ?_
  rintro e w1 ⟨q, F, m, rfl, hnt, _, _, _, hm⟩
  rw [la15_eq] at hnt
  have hm1 : Mod (fun _ => False) w w1 := (Mod.alloc _ _ _).of2 hm
  have HN := Lib.hid hnt
  have HM1 := Lib.hid hm1
  clear hnt hm hm1
  go_wp2_with fail
  refine (rk_sc HN.out la15_w HD.out 1 (by omega)).mono ?_
  rintro e w2 ⟨sa, sc, rfl, ho, hm⟩
  rw [show ((1 : Nat) : Int) = 1 from rfl, la15_sc HN.out.ok HD.out] at ho ⊢
  have HM2 := Lib.hid hm
  obtain ⟨eb, eo, hpe, e0, e1, e2, e3⟩ := rd4 (R := [⟨0, 2, 2, 1⟩]) (Rd.ofOwn ho) 0 (by decide)
  have hix : ∀ wx, (Instr.indexAt 30 (.slice sa 1 sc) (.int .i64 0)).run Try.prog wx = .ok (.pointer (some ⟨eb, eo, none⟩)) wx := fun wx => by
    have h := run_indexS (P := Try.prog) wx 30 42 iA 4 Try.underlying30 hiA hsA sa 1 sc 0 (by omega) ((Rd.ofOwn ho).some_ (by decide))
    rw [hpe] at h; exact h
  simp only [List.getElem_cons_zero] at e0 e1 e2 e3
  clear hm ho hpe
  go_wp2_with fail
  refine (rk_worth (HN.out.later HM2.out) la15_w HD.out 1 (by omega)).mono ?_
  rintro e w3 ⟨rfl, hm⟩
  rw [show ((1 : Nat) : Int) = 1 from rfl, la15_w1 HN.out.ok HD.out]
  have HM3 := Lib.hid (HM2.out.of2 hm)
  clear hm
  go_wp2_with fail
  refine (rk_worth (HN.out.later HM3.out) la15_w HD.out 0 (by omega)).mono ?_
  rintro e w4 ⟨rfl, hm⟩
  rw [show ((0 : Nat) : Int) = 0 from rfl, la15_w0]
  have HM4 := Lib.hid (HM3.out.of2 hm)
  clear hm
  go_wp2_with fail
  refine (rk_first (HN.out.later HM4.out) la15_w HD.out none 0 0 [] rfl (Rd.ofOwn (World.ownsRow_nil (base := 0) (e := 4) w4 1)) (by omega) (fun _ h => (by cases h))).mono ?_
  rintro e w5 ⟨rfl, hm⟩
  rw [la15_fi HN.out.ok HD.out]
  have HM5 := Lib.hid (HM4.out.of2 hm)
  clear hm
  go_wp2_with fail
  refine (rk_first ((HN.out.later HM5.out).later (Mod.alloc _ _ _)) la15_w HD.out _ 3 3 [true, true, true] rfl (by exact Rd.lit 4 [.bool true, .bool true, .bool true] (0, 0) _ 3 rfl rfl (by omega)) (by omega) (fun k h => .inr (by
    have e2 : w5.heap.size = k := by injection h
    rw [heap_size_alloc]; omega))).mono ?_
  rintro e w6 ⟨rfl, hm⟩
  rw [la15_no]
  have HM6 := Lib.hid (HM5.out.of2 ((Mod.alloc _ _ _).of2 hm))
  clear hm
  go_wp2_with fail
  refine (rk_first_nil _).mono ?_
  rintro e w7 ⟨rfl, hm⟩
  have HM7 := Lib.hid (HM6.out.of2 hm)
  clear hm
  go_wp2_with fail
  go_ret
  exact ⟨rfl, HM1.out.of2 HM7.out⟩
end Go.Proofs.Ytepnlijdnabllaa
