/- Law 26's awake by contract. -/
import Derived.Test.YtffcoajodpfngaaTk4
import Derived.Deep.DeepCutAuto
import Derived.Deep.CutBlock
namespace Go.Proofs.Ytffcoajodpfngaa
open Go.RowKit Mile
set_option maxRecDepth 100000
/-- Take of a row of bytes of the statement's own. -/
theorem tk_lit {W : World} {p r M N : Nat} {f : Hld} (h : TK W p r M N f) (hNb : N ≤ 1000000000000) (s : Nat) (hs : N ≤ s ∧ s < N + M) (hf : f s = none) (xs : List Int) (n : Nat) (hn : xs.length = n) (hnb : n ≤ 100) :
    Calls Try.prog 9 #[.pointer (some ⟨p, 0, none⟩), .int .i64 (s : Int), .slice (some ⟨W.heap.size, 0, none⟩) n n] (W.alloc (.cells (xs.map (Value.int .u8)).toArray 5)) (TakeP p r M N (putH f s xs) W) := by
  have hm : Mod (fun _ => False) W (W.alloc (.cells (xs.map (Value.int .u8)).toArray 5)) := Mod.alloc _ _ _
  refine (tktake_any _ p r M N f (h.keep hm) hNb s hs hf _ n n xs hn (Rd.lit _ (xs.map (Value.int .u8)) _ _ n rfl (by rw [List.length_map]; exact hn) (by omega)) (by omega)).mono ?_
  rintro e w' ⟨a, k, c, vs, he, h1, h2, h3, h4, h5⟩
  exact ⟨a, k, c, vs, he, h1, h2, h3, h4, hm.trans h5 (fun _ _ e => e.elim) (fun _ _ e => e)⟩
theorem tk_lit_no {W : World} {p r M N : Nat} {f : Hld} (h : TK W p r M N f) (hNb : N ≤ 1000000000000) (sv : Int) (hno : sv < (N : Int) ∨ (N : Int) + (M : Int) ≤ sv ∨ ∃ s : Nat, sv = (s : Int) ∧ f s ≠ none) (xs : List Value) (n : Nat) :
    Calls Try.prog 9 #[.pointer (some ⟨p, 0, none⟩), .int .i64 sv, .slice (some ⟨W.heap.size, 0, none⟩) n n] (W.alloc (.cells xs.toArray 5)) fun e w' => e = .returned (.tuple #[.slice none 0 0, .bool false]) ∧ Mod (fun _ => False) W w' := by
  have hm : Mod (fun _ => False) W (W.alloc (.cells xs.toArray 5)) := Mod.alloc _ _ _
  refine (tktake_no _ p r M N f (h.keep hm) hNb sv hno _ n n).mono ?_
  rintro e w' ⟨he, h5⟩
  exact ⟨he, hm.of2 h5⟩
theorem mod_pr {w a b : World} {p r : Nat} (h : Mod (fun _ => False) w a) (k : Mod (fun k => k = p ∨ k = r) a b) (hp : w.heap.size ≤ p) (hr : w.heap.size ≤ r) : Mod (fun _ => False) w b :=
  h.old k (fun i hi => by rcases hi with e | e <;> omega)
set_option maxHeartbeats 16000000 in
theorem awake26_any (w : World) : Calls Try.prog 6 #[] w fun e w' => e = .returned (.bool true) ∧ Mod (fun _ => False) w w' := by
  obtain ⟨iI, hiI, hzI, hsI, hbI⟩ := info_parts Tk.info3
  obtain ⟨iB, hiB, hzB, hsB, hbB⟩ := info_parts Tk.infoB
  go_enter Try.func6, Try.ntmps6
  go_wp2_with fail
  have hnew : Calls Try.prog 7 #[.int .i64 3] w _ := tknew_any w 3 (by omega) (by omega)
  refine hnew.mono ?_
  clear hnew
  rintro e w1 ⟨p, r, rfl, h1, hp, hr, hm1⟩
  have H1 := Lib.hid h1
  have HM1 := Lib.hid hm1
  have HP := Lib.hid hp
  have HR := Lib.hid hr
  clear h1 hm1 hp hr
  go_wp2_with fail
  refine (tknew_no w1 0 (by omega)).mono ?_
  rintro e w' ⟨rfl, rfl⟩
  go_wp2_with fail
  have ht : Calls Try.prog 9 #[.pointer (some ⟨p, 0, none⟩), .int .i64 1, .slice (some ⟨w1.heap.size, 0, none⟩) 1 1] (w1.alloc (.cells #[.int .u8 9] 5)) (TakeP p r 3 0 (putH (fun _ => none) 1 [9]) w1) := tk_lit H1.out (by omega) 1 ⟨by omega, by omega⟩ rfl [9] 1 rfl (by omega)
  refine ht.mono ?_
  clear ht
  rintro e w2 ⟨a2, n2, c2, vs2, rfl, hn2, _, _, hk2, hm2⟩
  obtain rfl : 0 = n2 := hn2
  have H2 := Lib.hid hk2
  have HM2 := Lib.hid (mod_pr HM1.out hm2 HP.out HR.out)
  clear hk2 hm2 H1
  go_wp2_with fail
  refine (tkheld_any w2 p r 3 (0 + 0) _ H2.out (by omega)).mono ?_
  rintro e w3 ⟨a3, c3, rfl, ho3, hm3⟩
  have hl3 : heldT (fromH (putH (fun _ => none) 1 [9]) (0 + 0)) (0 + 0) 3 = [1] := by rfl
  rw [hl3] at ho3 ⊢
  simp only [List.length_cons, List.length_nil, Nat.zero_add] at ho3 ⊢
  have hps : ∀ k, (Value.slice a3 1 c3).ownBlock = some k → w2.heap.size ≤ k := fun k hk => (ho3.lt k hk).1
  have hpl := H2.out.blk.lt
  have hrl : r < w2.heap.size := by obtain ⟨cs, hcs, _⟩ := H2.out.row; exact hcs.lt
  have HAP : Hid (∀ k, (Value.slice a3 1 c3).ownBlock = some k → ¬ (k = p ∨ k = r)) := Lib.hid fun k hk e => by have := hps k hk; omega
  have H3 := Lib.hid (H2.out.keep hm3)
  have HO3 := Lib.hid (Rd.ofOwn ho3)
  have HM3 := Lib.hid (HM2.out.of2 hm3)
  clear ho3 hm3 hps hpl hrl hl3 H2
  go_wp2_with fail
  refine (tk_lit_no H3.out (by omega) 3 (.inr (.inl (by omega))) [.int .u8 9] 1).mono ?_
  rintro e w4 ⟨rfl, hm4⟩
  have H4 := Lib.hid (H3.out.keep hm4)
  have HO4 := Lib.hid (HO3.out.keep hm4 (fun _ _ e => e))
  have HM4 := Lib.hid (HM3.out.of2 hm4)
  clear hm4 H3 HO3
  go_wp2_with fail
  have ht : Calls Try.prog 9 #[.pointer (some ⟨p, 0, none⟩), .int .i64 0, .slice (some ⟨w4.heap.size, 0, none⟩) 1 1] (w4.alloc (.cells #[.int .u8 8] 5)) (TakeP p r 3 (0 + 0) (putH (fromH (putH (fun _ => none) 1 [9]) (0 + 0)) 0 [8]) w4) := tk_lit H4.out (by omega) 0 ⟨by omega, by omega⟩ rfl [8] 1 rfl (by omega)
  refine ht.mono ?_
  clear ht
  rintro e w5 ⟨a5, n5, c5, vs5, rfl, hn5, hr5, hb5, hk5, hm5⟩
  obtain rfl : 2 = n5 := hn5
  have hl5 : runL (putH (fromH (putH (fun _ => none) 1 [9]) (0 + 0)) 0 [8]) 3 (0 + 0) = [[8], [9]] := by rfl
  rw [hl5] at hb5
  obtain ⟨v0, hv0, x0, y0, z0, rfl, hy0, hd0, _⟩ := hb5.2 0 (by simp)
  obtain ⟨v1, hv1, x1, y1, z1, rfl, hy1, hd1, _⟩ := hb5.2 1 (by simp)
  obtain rfl : 1 = y0 := hy0
  obtain rfl : 1 = y1 := hy1
  replace hd0 : Rd w5 1 (.slice x0 1 z0) 1 ([8].map (Value.int .u8)) := hd0
  replace hd1 : Rd w5 1 (.slice x1 1 z1) 1 ([9].map (Value.int .u8)) := hd1
  have H5 := Lib.hid hk5
  have HM5 := Lib.hid (mod_pr HM4.out hm5 HP.out HR.out)
  have HO5 := Lib.hid (HO4.out.keep hm5 HAP.out)
  have HR5 := Lib.hid hr5
  have HD0 := Lib.hid hd0
  have HD1 := Lib.hid hd1
  have HV0 := Lib.hid hv0
  have HV1 := Lib.hid hv1
  clear hk5 hm5 hr5 hd0 hd1 hv0 hv1 hb5 hl5 H4 HO4
  go_wp2_with fail
  refine (tk_lit_no H5.out (by omega) 1 (.inl (by omega)) [.int .u8 9] 1).mono ?_
  rintro e w6 ⟨rfl, hm6⟩
  have HM56 := Lib.hid hm6
  clear hm6
  go_wp2_with fail
  refine (tktake_nil w6 0 none 0 0).mono ?_
  rintro e w7 ⟨rfl, hm7⟩
  have HM57 := Lib.hid (HM56.out.of2 hm7)
  clear hm7 HM56
  obtain ⟨b0, o0, hpl0, _⟩ := HR5.out.place (j := 0) (by omega)
  obtain ⟨b1, o1, hpl1, _⟩ := HR5.out.place (j := 1) (by omega)
  have hix0 := fun wx => run_indexS (P := Try.prog) wx 31 23 iB 1 Try.underlying31 hiB hsB a5 2 c5 0 (by omega) (HR5.out.some_ (by omega))
  have hix1 := fun wx => run_indexS (P := Try.prog) wx 31 23 iB 1 Try.underlying31 hiB hsB a5 2 c5 1 (by omega) (HR5.out.some_ (by omega))
  rw [hpl0] at hix0
  rw [hpl1] at hix1
  have e0 := HR5.out.elem HV0.out
  have e1 := HR5.out.elem HV1.out
  rw [hpl0] at e0
  rw [hpl1] at e1
  have HE0 := Lib.hid e0
  have HE1 := Lib.hid e1
  have HIX0 : Hid (∀ wx, (Instr.indexAt 31 (.slice a5 2 c5) (.int .i64 0)).run Try.prog wx = .ok (.pointer (some ⟨b0, o0, none⟩)) wx) := Lib.hid hix0
  have HIX1 : Hid (∀ wx, (Instr.indexAt 31 (.slice a5 2 c5) (.int .i64 1)).run Try.prog wx = .ok (.pointer (some ⟨b1, o1, none⟩)) wx) := Lib.hid hix1
  clear hix0 hix1 e0 e1 hpl0 hpl1
  have hlit := Rd.lit (w := w7) 3 [Value.int .i64 1] (0, 0) _ 1 rfl rfl (by decide)
  have hma : Mod (fun _ => False) w5 (w7.alloc (.cells #[.int .i64 1] 3)) := HM57.out.thenAlloc _
  have HLIT := Lib.hid hlit
  have s8 : (strOf [8]).toList = [8] := by decide +kernel
  have s9 : (strOf [9]).toList = [9] := by decide +kernel
  have HH : Hid ((heldT (fromH (putH (fromH (putH (fun _ => none) 1 [9]) (0 + 0)) 0 [8]) (0 + 0 + 2)) (0 + 0 + 2) 3).length = 0) := Lib.hid rfl
  have HMA := Lib.hid hma
  clear hlit hma
  go_wp2_with (first
    | (go_at_call 13; refine (ints_any _ a3 1 c3 [1] rfl (HO5.out.keep HMA.out (fun _ _ e => e)) _ 1 1 [1] rfl HLIT.out (by omega)).mono ?_; rintro e w9 ⟨rfl, kd, hkd⟩; have HM9 := Lib.hid (show Mod (fun _ => False) w5 w9 from (by rw [hkd]; exact HMA.out.of2 (Mod.drewN _ _ _))); clear hkd; have q0 := HM9.out.cell HE0.out (fun e => e); have q1 := HM9.out.cell HE1.out (fun e => e); have i0 := HIX0.out; have i1 := HIX1.out; have k0 := run_strS w9 23 9 5 Try.underlying23 Try.underlying5 Try.underlying9 (HD0.out.keep HM9.out (fun _ _ e => e)); have k1 := run_strS w9 23 9 5 Try.underlying23 Try.underlying5 Try.underlying9 (HD1.out.keep HM9.out (fun _ _ e => e)))
    | (go_at_call 12; refine (tknext_any _ p r 3 (0 + 0 + 2) _ (H5.out.keep HM9.out)).mono ?_; rintro e w' ⟨rfl, rfl⟩)
    | (go_at_call 14; refine (tkheld_any _ p r 3 (0 + 0 + 2) _ (H5.out.keep HM9.out) (by omega)).mono ?_; rintro e w10 ⟨a10, c10, rfl, _, hm10⟩; rw [HH.out]; have HM10 := Lib.hid (HM9.out.of2 hm10); clear hm10)
    | (go_at_call 12; refine (tknext_nil _).mono ?_; rintro e w' ⟨rfl, rfl⟩))
  go_ret
  exact ⟨rfl, HM5.out.of2 HM10.out⟩
end Go.Proofs.Ytffcoajodpfngaa
