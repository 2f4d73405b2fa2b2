/- timer's Stop and Due by contract. -/
import Derived.Test.YtdahoecejnnjkaaTm3
namespace Go.Proofs.Ytdahoecejnnjkaa
open Go.RowKit Mile Go.Maps
set_option maxRecDepth 100000
theorem Tm.field1 (d m : Int) (wx : World) : (Instr.field 136 (.agg #[.int .i64 d, .int .i64 m]) 1).run Try.prog wx = .ok (.int .i64 m) wx := by kernel_rfl
theorem TM.stop {w : World} {p : Nat} {mb : Option Nat} {B M R : Nat} {L : List Wt} (h : TM w p mb B M R L) (k : Int) (hk : (Lit.int .i64 k).wf = true) (ty : TypeId) :
    ∃ w', (Builtin.delete_ #[105, 3] ty #[.map mb, .int .i64 k]).run Try.prog w = .ok (.tuple #[]) w' ∧ TM w' p mb B M R (stopW L k) ∧ Mod (fun i => mb = some i) w w' := by
  have hids : ∀ e ∈ stopW L k, (Lit.int .i64 e.id).wf = true ∧ e.n ≤ R := fun e he => h.ids e (mem_stopW.1 he).1
  cases mb with
  | none =>
    have hL := h.none_ rfl
    subst hL
    exact ⟨w, Maps.drop_nil Tm.key Try.underlying105 (Maps.keyOf_int_mk Try.underlying3 hk) ty, h, Mod.refl _ _⟩
  | some b =>
    obtain ⟨hbp, hwm⟩ := h.some_ b rfl
    obtain ⟨w', hrun, hwm', hm⟩ := hwm.drop k hk ty
    exact ⟨w', hrun, ⟨h.b1, h.bm, h.mx, h.rx, h.rise.stop k, hids, h.blk.keep hm (fun e => hbp e.symm), fun e => (by cases e), fun q hq => by cases hq; exact ⟨hbp, hwm'⟩⟩, hm.mono (fun i _ e => by rw [e])⟩
def stopL (L : List Wt) (xs : List Int) : List Wt := xs.foldl stopW L
theorem tstop_nil (w : World) (a : Option Addr) (n c : Nat) : Calls Try.prog 53 #[.pointer none, .slice a n c] w fun e w' => e = .returned (.tuple #[]) ∧ w = w' := by
  go_enter Try.func53, Try.ntmps53
  go_wp2_with fail
  (try simp only [Exit.inBlock, Exit.then])
  refine bodyPost_ret (results_none rfl _ _ _) rfl ?_
  exact ⟨rfl, rfl⟩
set_option maxHeartbeats 4000000 in
theorem tstop_any (w : World) (p : Nat) (mb : Option Nat) (B M R : Nat) (L : List Wt) (h : TM w p mb B M R L) (a : Option Addr) (n c : Nat) (xs : List Int) (hn : xs.length = n) (hr : Rd w 1 (.slice a n c) n (xs.map (Value.int .i64))) (hnb : n ≤ 1000000000) (hap : ∀ k, (Value.slice a n c).ownBlock = some k → mb = some k → xs = []) (hwf : ∀ x ∈ xs, (Lit.int .i64 x).wf = true) :
    Calls Try.prog 53 #[.pointer (some ⟨p, 0, none⟩), .slice a n c] w fun e w' => e = .returned (.tuple #[]) ∧ TM w' p mb B M R (stopL L xs) ∧ Mod (fun i => mb = some i) w w' := by
  obtain ⟨iI, hiI, hzI, hsI, hbI⟩ := info_parts Tm.info3
  have HN := Lib.hid hn
  have HRD := Lib.hid hr
  have HT := Lib.hid h
  have HAP := Lib.hid hap
  have HWF := Lib.hid hwf
  clear hn hr h hap hwf
  go_enter Try.func53, Try.ntmps53
  go_wp2_with fail
  go_loopw [10] (fun i wr => ∃ j : Nat, j ≤ n ∧ i = .int .i64 j ∧ TM wr p mb B M R (stopL L (xs.take j)) ∧ Mod (fun i => mb = some i) w wr) (fun i _ => n - (intOf i).toNat)
  case atStart => exact ⟨0, by omega, rfl, HT.out, Mod.refl _ _⟩
  case round =>
    obtain ⟨j, hj, rfl, ht, hm⟩ := hrel
    obtain ⟨wo, hwo⟩ : ∃ x : World, x = wr := ⟨_, rfl⟩
    subst hwo
    have HT1 := Lib.hid ht
    have HM := Lib.hid hm
    clear ht hm
    by_cases hlt : j < n
    case pos =>
      have z0 : decide ((j : Int) < (n : Int)) = true := by simp; omega
      have hjl : j < xs.length := by rw [HN.out]; exact hlt
      have hrd := HRD.out.keepA HM.out (fun k hk e => by rw [HAP.out k hk e]; rfl)
      obtain ⟨eb, eo, hpl, e0⟩ := rd1 hrd j hjl
      have hix := fun wx => run_indexS (P := Try.prog) wx 70 3 iI 1 Try.underlying70 hiI hsI a n c j hlt (hrd.some_ (by omega))
      rw [hpl] at hix
      obtain ⟨x, hx⟩ : ∃ x, xs[j] = x := ⟨_, rfl⟩
      rw [hx] at e0
      have hxw : (Lit.int .i64 x).wf = true := by rw [← hx]; exact HWF.out _ (List.getElem_mem hjl)
      have hst : stopL L (xs.take (j + 1)) = stopW (stopL L (xs.take j)) x := by unfold stopL; rw [List.take_succ_eq_append_getElem hjl, List.foldl_append, hx]; rfl
      have HST := Lib.hid hst
      have HXW := Lib.hid hxw
      have c3 := HT1.out.blk.cell 3 rfl
      obtain ⟨w1, hrun, ht1, hm1⟩ : ∃ w1, (∀ ty, (Builtin.delete_ #[105, 3] ty #[.map mb, .int .i64 x]).run Try.prog wo = .ok (.tuple #[]) w1) ∧ TM w1 p mb B M R (stopW (stopL L (xs.take j)) x) ∧ Mod (fun i => mb = some i) wo w1 := by
        obtain ⟨w1, h1, h2, h3⟩ := HT1.out.stop x hxw 0
        exact ⟨w1, fun ty => h1, h2, h3⟩
      have HT2 := Lib.hid ht1
      have HM2 := Lib.hid hm1
      clear ht1 hm1 hst hxw hx hrd hpl
      go_wp2_with fail
      go_roundw
      case rel => exact ⟨j + 1, hlt, by go_num, by rw [HST.out]; exact HT2.out, HM.out.trans HM2.out (fun _ _ e => e) (fun _ _ e => e)⟩
      case measure => simp [intOf]; omega
    case neg =>
      have z0 : decide ((j : Int) < (n : Int)) = false := by simp; omega
      obtain rfl : j = n := by omega
      go_wp2_with fail
      go_end0
      exact ⟨rfl, by have h1 := HT1.out; rw [List.take_of_length_le (by rw [HN.out]; exact Nat.le_refl _)] at h1; exact h1, HM.out⟩
theorem againE_snoc (R : Nat) (E : List Wt) (e : Wt) : againE R (E ++ [e]) = againE R E ++ if e.n < R then [e.id] else [] := by
  unfold againE
  rw [List.filter_append, List.map_append]
  by_cases h : e.n < R
  · rw [List.filter_cons_of_pos (by simpa using h), if_pos h]; rfl
  · rw [List.filter_cons_of_neg (by simpa using h), if_neg h]; rfl
theorem overE_snoc (R : Nat) (E : List Wt) (e : Wt) : overE R (E ++ [e]) = overE R E ++ if e.n < R then [] else [e.id] := by
  unfold overE
  rw [List.filter_append, List.map_append]
  by_cases h : e.n < R
  · rw [List.filter_cons_of_neg (by simpa using h), if_pos h]; rfl
  · rw [List.filter_cons_of_pos (by simpa using h), if_neg h]; rfl
theorem againE_len (R : Nat) (E : List Wt) : (againE R E).length ≤ E.length := by unfold againE; rw [List.length_map]; exact List.length_filter_le _ _
theorem overE_len (R : Nat) (E : List Wt) : (overE R E).length ≤ E.length := by unfold overE; rw [List.length_map]; exact List.length_filter_le _ _
theorem dueE_len (L : List Wt) (now : Int) : (dueE L now).length ≤ L.length := List.length_filter_le _ _
/-- What Due tells and leaves. -/
def TDueP (p : Nat) (mb : Option Nat) (B M R : Nat) (L : List Wt) (now : Int) (w : World) (e : Ending) (w' : World) : Prop :=
  ∃ a1 c1 a2 c2, e = .returned (.tuple #[.slice a1 (againE R (dueE L now)).length c1, .slice a2 (overE R (dueE L now)).length c2]) ∧
    World.ownsRow w' w.heap.size 3 1 (.slice a1 (againE R (dueE L now)).length c1) (againE R (dueE L now)).length ((againE R (dueE L now)).map (Value.int .i64)) ∧
    World.ownsRow w' w.heap.size 3 1 (.slice a2 (overE R (dueE L now)).length c2) (overE R (dueE L now)).length ((overE R (dueE L now)).map (Value.int .i64)) ∧
    TM w' p mb B M R (L.filterMap (dueW B M R now)) ∧ Mod (tmF p mb) w w'
set_option maxHeartbeats 16000000 in
theorem tdue_any (w : World) (p : Nat) (mb : Option Nat) (B M R : Nat) (L : List Wt) (h : TM w p mb B M R L) (hL : L.length ≤ 1000000) (now : Int) (hnow : -4611686018427387904 ≤ now ∧ now ≤ 4611686018427387904) :
    Calls Try.prog 56 #[.pointer (some ⟨p, 0, none⟩), .int .i64 now] w fun e w' => TDueP p mb B M R L now w e w' := by
  obtain ⟨iI, hiI, hzI, hsI, hbI⟩ := info_parts Tm.info3
  have hplt := h.lt
  have HPL := Lib.hid hplt
  have HR20 := h.rx
  have HT := Lib.hid h
  have hdl := dueE_len L now
  have HNOW := Lib.hid hnow
  clear h hplt hnow
  go_enter Try.func56, Try.ntmps56
  go_wp2_with fail
  refine (due_any w p mb B M R L HT.out (by omega) now).mono ?_
  rintro e wd ⟨ad, cd, rfl, hod, hmd⟩
  obtain ⟨E, hE⟩ : ∃ E, dueE L now = E := ⟨_, rfl⟩
  rw [hE] at hod hdl
  obtain ⟨k, hk⟩ : ∃ k, E.length = k := ⟨_, rfl⟩
  rw [hk] at hod hdl
  have HE := Lib.hid hE
  have HK := Lib.hid hk
  have HOD := Lib.hid hod
  have HMD := Lib.hid hmd
  clear hE hod hmd
  rw [HE.out, hk]
  clear hk
  have hk6 : k ≤ 1000000 := by omega
  have HL := Lib.hid hL
  have HT2 := Lib.hid (HT.out.keep HMD.out (fun _ _ e => e))
  have HSD : Hid (w.heap.size ≤ wd.heap.size) := Lib.hid HMD.out.size
  clear hL
  go_wp2_with fail
  go_loopw [4, 5, 13] (fun v1 v2 iv wr => ∃ (j n1 n2 : Nat) (a1 a2 : Option Addr) (c1 c2 : Nat), j ≤ k ∧ v1 = .slice a1 n1 c1 ∧ v2 = .slice a2 n2 c2 ∧ iv = .int .i64 j ∧ (againE R (E.take j)).length = n1 ∧ (overE R (E.take j)).length = n2 ∧
    World.ownsRow wr wd.heap.size 3 1 (.slice a1 n1 c1) n1 ((againE R (E.take j)).map (Value.int .i64)) ∧ World.ownsRow wr wd.heap.size 3 1 (.slice a2 n2 c2) n2 ((overE R (E.take j)).map (Value.int .i64)) ∧
    (∀ q, (Value.slice a1 n1 c1).ownBlock = some q → (Value.slice a2 n2 c2).ownBlock ≠ some q) ∧ TM wr p mb B M R (dueSt B M R now j L) ∧ Mod (tmF p mb) wd wr) (fun _ _ iv _ => k - (intOf iv).toNat)
  case atStart => exact ⟨0, 0, 0, none, none, 0, 0, by omega, rfl, rfl, rfl, rfl, rfl, World.ownsRow_nil _ _ _ _, World.ownsRow_nil _ _ _ _, fun q hq => (by cases hq), by rw [dueSt_zero]; exact HT2.out, Mod.refl _ _⟩
  case round =>
    obtain ⟨j, n1, n2, a1, a2, c1, c2, hj, rfl, rfl, rfl, hl1, hl2, ho1, ho2, hap, ht, hm⟩ := hrel
    obtain ⟨wo, hwo⟩ : ∃ x : World, x = wr := ⟨_, rfl⟩
    subst hwo
    have HO1 := Lib.hid ho1
    have HO2 := Lib.hid ho2
    have HAP := Lib.hid hap
    have HTO := Lib.hid ht
    have HM := Lib.hid hm
    have HL1 := Lib.hid hl1
    have HL2 := Lib.hid hl2
    have hb1 : n1 ≤ 1000000 := by have h1 := againE_len R (E.take j); have h2 : (E.take j).length ≤ j := List.length_take_le _ _; have h3 := HL.out; omega
    have hb2 : n2 ≤ 1000000 := by have h1 := overE_len R (E.take j); have h2 : (E.take j).length ≤ j := List.length_take_le _ _; have h3 := HL.out; omega
    clear ho1 ho2 hap ht hm hl1 hl2
    by_cases hlt : j < k
    case neg =>
      have z0 : decide ((j : Int) < (k : Int)) = false := by simp; omega
      obtain rfl : j = k := by omega
      have HET : Hid (E.take j = E) := Lib.hid (by rw [← HK.out]; exact List.take_length)
      have HDS : Hid (dueSt B M R now j L = L.filterMap (dueW B M R now)) := Lib.hid (by rw [← HK.out, ← HE.out]; exact dueSt_end B M R now L)
      go_wp2_with fail
      go_ret2
      unfold TDueP
      rw [HE.out]
      rw [HET.out] at HL1 HL2 HO1 HO2
      rw [HDS.out] at HTO
      rw [HL1.out, HL2.out]
      exact ⟨a1, c1, a2, c2, rfl, Own.base HO1.out HSD.out, Own.base HO2.out HSD.out, HTO.out, HMD.out.trans HM.out (fun _ _ e => e.elim) (fun _ _ e => e)⟩
    case pos =>
      have z0 : decide ((j : Int) < (k : Int)) = true := by simp; omega
      have hjl : j < E.length := by rw [HK.out]; exact hlt
      have HDL : Hid ((dueSt B M R now j L).length ≤ 1000000) := Lib.hid (by have h1 := dueSt_len B M R now L j; have h3 := HL.out; omega)
      obtain ⟨P, e, Q, hLs, hEj, hdue, hs0, hs1⟩ := dueSt_at B M R now L j (by rw [HE.out]; exact hjl)
      rw [HE.out, List.getElem?_eq_getElem hjl] at hEj
      replace hEj : E[j] = e := Option.some.inj hEj
      obtain ⟨b, rfl⟩ : ∃ b, mb = some b := by
        cases mb with
        | some b => exact ⟨b, rfl⟩
        | none => have := HT.out.none_ rfl; rw [this] at hLs; cases P <;> cases hLs
      have hrd := (Rd.ofOwn HOD.out).keep HM.out (fun q hq e => by have h1 := (HOD.out.lt q hq).1; have h2 := HPL.out q e; omega)
      obtain ⟨eb, eo, hpl, e0⟩ := rd1 (S := E.map (·.id)) hrd j (by rw [List.length_map]; exact hjl)
      rw [List.getElem_map, hEj] at e0
      have hix := fun wx => run_indexS (P := Try.prog) wx 70 3 iI 1 Try.underlying70 hiI hsI ad k cd j hlt (hrd.some_ (by omega))
      rw [hpl] at hix
      have htw := HTO.out
      rw [hs0] at htw HDL
      have hew := htw.ids e (by simp)
      have hlook := (htw.some_ b rfl).2.look htw.rise hew.1
      have hdw : dueW B M R now e = if e.n < R then some ⟨e.id, now + waitN B M (e.n + 1), e.n + 1⟩ else none := by unfold dueW; rw [if_neg hdue]
      have htk : E.take (j + 1) = E.take j ++ [e] := by rw [List.take_succ_eq_append_getElem hjl, hEj]
      have hga := againE_snoc R (E.take j) e
      have hgo := overE_snoc R (E.take j) e
      rw [← htk] at hga hgo
      obtain ⟨id, hid⟩ : ∃ x, e.id = x := ⟨_, rfl⟩
      obtain ⟨n, hn⟩ : ∃ x, e.n = x := ⟨_, rfl⟩
      have hrise := htw.rise
      rw [hid] at e0 hlook hew hga hgo hdw
      rw [hn] at hlook hew hga hgo hdw
      rw [hdw] at hs1
      have c3 := htw.blk.cell 3 rfl
      have c2r := htw.blk.cell 2 rfl
      have hfd := fun wx => Tm.field1 e.due (n : Int) wx
      have HGA := Lib.hid hga
      have HGO := Lib.hid hgo
      have HS1 := Lib.hid hs1
      have HTW := Lib.hid htw
      have HRI := Lib.hid hrise
      have HEW := Lib.hid hew
      have HID := Lib.hid hid
      have HNN := Lib.hid hn
      have hn20 : n ≤ 20 := by have := hew.2; omega
      have HSO : Hid (wd.heap.size ≤ wo.heap.size) := Lib.hid HM.out.size
      clear hga hgo hs1 htw hrise hew hdw htk hs0 hEj hLs hpl hrd hid hn hdue
      by_cases hnr : n < R
      case pos =>
        have z1 : decide ((n : Int) + 1 ≤ (R : Int)) = true := by simp; omega
        have HGA2 : Hid (againE R (E.take (j + 1)) = againE R (E.take j) ++ [id]) := Lib.hid (by rw [HGA.out, if_pos hnr])
        have HGO2 : Hid (overE R (E.take (j + 1)) = overE R (E.take j)) := Lib.hid (by rw [HGO.out, if_pos hnr, List.append_nil])
        have HS2 : Hid (dueSt B M R now (j + 1) L = P.filterMap (dueW B M R now) ++ ⟨id, now + waitN B M (n + 1), n + 1⟩ :: Q) := Lib.hid (by rw [HS1.out, if_pos hnr]; rfl)
        clear HGA HGO HS1
        have hca : ((n + 1 : Nat) : Int) = (n : Int) + 1 := by omega
        have HCA := Lib.hid hca
        clear hca
        go_wp2_with (at_builtin; refine wpList_append_any rfl (.tmp 31) (.tmp 33) 70 rfl 3 iI (.int .i64 0) 1 8 Try.underlying70 hiI hzI hsI hbI rfl (by decide) _ n1 _ rfl (World.ownsRow.alloc (Own.base HO1.out (Nat.zero_le _)) _) _ 1 [.int .i64 id] rfl (Rd.lit 3 [.int .i64 id] (0, 0) wo.heap.size 1 rfl rfl (by decide)) (by intro u hu; simp at hu; subst hu; rfl) (by unfold maxLen; omega) (by omega) ?_; intro v4 w4 hap)
        obtain ⟨a4, c4, rfl⟩ := hap.form
        have ho4 := hap.own
        have lo4 := hap.low (B := wd.heap.size) (by have := HSO.out; simp; omega) (fun k hk => (HO1.out.lt k hk).1)
        have hrow := hap.row
        have hmq := hap.mod
        have ho5 := Own.rebase ho4 lo4
        have HO5 := Lib.hid ho5
        have HROW := Lib.hid hrow
        have HMQ : Hid (Mod (fun k => (Value.slice a1 n1 c1).ownBlock = some k) wo w4) := Lib.hid ((Mod.alloc (fun _ => False) wo _).trans hmq (fun _ _ x => x.elim) (fun _ _ x => x))
        have htw4 : TM w4 p (some b) B M R _ := HTW.out.keep HMQ.out (fun q hq hk => by have h1 := (HO1.out.lt q hk).1; have h2 := HPL.out q hq; have h3 := HSD.out; omega)
        have HT4 := Lib.hid htw4
        have hoo := Own.keep HO2.out HMQ.out (fun q hq hk => HAP.out q (by first | exact x | exact hk) (by first | exact hk | exact hq))
        have HP4 := Lib.hid hoo
        have hapn : ∀ q, (Value.slice a4 (n1 + 1) c4).ownBlock = some q → (Value.slice a2 n2 c2).ownBlock ≠ some q := (fun q hq hk => (HROW.out q hq).elim (fun x => HAP.out q (by first | exact x | exact hk) (by first | exact hk | exact hq)) (fun x => by have h1 := (HO2.out.lt q hk).2; simp at x; omega))
        have HAN := Lib.hid hapn
        clear hap ho4 lo4 ho5 hmq hrow htw4 hoo hapn
        have hcall := await_any w4 p (some b) B M R _ HT4.out (by have := HDL.out; omega) id now (n + 1) HEW.out.1 hnr HNOW.out
        rw [HCA.out] at hcall
        refine hcall.mono ?_
        rintro e5 w5 ⟨rfl, mb5, ht5, _, hmb5, hm5⟩
        obtain rfl := hmb5 b rfl
        rw [putW_mid HRI.out HID.out.symm, ← HS2.out] at ht5
        have HT5 := Lib.hid ht5
        have HM5 := Lib.hid hm5
        clear ht5 hm5 hcall hmb5
        go_wp2_with fail
        go_roundw
        case rel => exact ⟨j + 1, n1 + 1, n2, a4, a2, c4, c2, hlt, rfl, rfl, by go_num, by rw [HGA2.out, List.length_append, HL1.out]; rfl, by rw [HGO2.out]; exact HL2.out,
          by rw [HGA2.out, List.map_append]; exact Own.keep HO5.out HM5.out (fun q hq hk => by have h1 := (HO5.out.lt q hq).1; have h2 := HPL.out q hk; have h3 := HSD.out; omega),
          by rw [HGO2.out]; exact Own.keep HP4.out HM5.out (fun q hq hk => by have h1 := (HP4.out.lt q hq).1; have h2 := HPL.out q hk; have h3 := HSD.out; omega), HAN.out, HT5.out,
          (HM.out.trans HMQ.out (H := tmF p (some b)) (fun _ _ x => x) (fun i hi x => by have h1 := (HO1.out.lt i x).1; omega)).trans HM5.out (fun _ _ x => x) (fun _ _ x => x)⟩
        case measure => simp [intOf]; omega
      case neg =>
        have z1 : decide ((n : Int) + 1 ≤ (R : Int)) = false := by simp; omega
        have HGA2 : Hid (againE R (E.take (j + 1)) = againE R (E.take j)) := Lib.hid (by rw [HGA.out, if_neg hnr, List.append_nil])
        have HGO2 : Hid (overE R (E.take (j + 1)) = overE R (E.take j) ++ [id]) := Lib.hid (by rw [HGO.out, if_neg hnr])
        have HS2 : Hid (dueSt B M R now (j + 1) L = P.filterMap (dueW B M R now) ++ Q) := Lib.hid (by rw [HS1.out, if_neg hnr]; rfl)
        clear HGA HGO HS1
        go_wp2_with (at_builtin; refine wpList_append_any rfl (.tmp 40) (.tmp 42) 70 rfl 3 iI (.int .i64 0) 1 8 Try.underlying70 hiI hzI hsI hbI rfl (by decide) _ n2 _ rfl (World.ownsRow.alloc (Own.base HO2.out (Nat.zero_le _)) _) _ 1 [.int .i64 id] rfl (Rd.lit 3 [.int .i64 id] (0, 0) wo.heap.size 1 rfl rfl (by decide)) (by intro u hu; simp at hu; subst hu; rfl) (by unfold maxLen; omega) (by omega) ?_; intro v4 w4 hap)
        obtain ⟨a4, c4, rfl⟩ := hap.form
        have ho4 := hap.own
        have lo4 := hap.low (B := wd.heap.size) (by have := HSO.out; simp; omega) (fun k hk => (HO2.out.lt k hk).1)
        have hrow := hap.row
        have hmq := hap.mod
        have ho5 := Own.rebase ho4 lo4
        have HO5 := Lib.hid ho5
        have HROW := Lib.hid hrow
        have HMQ : Hid (Mod (fun k => (Value.slice a2 n2 c2).ownBlock = some k) wo w4) := Lib.hid ((Mod.alloc (fun _ => False) wo _).trans hmq (fun _ _ x => x.elim) (fun _ _ x => x))
        have htw4 : TM w4 p (some b) B M R _ := HTW.out.keep HMQ.out (fun q hq hk => by have h1 := (HO2.out.lt q hk).1; have h2 := HPL.out q hq; have h3 := HSD.out; omega)
        have HT4 := Lib.hid htw4
        have hoo := Own.keep HO1.out HMQ.out (fun q hq hk => HAP.out q (by first | exact hk | exact hq) (by first | exact x | exact hk))
        have HP4 := Lib.hid hoo
        have hapn : ∀ q, (Value.slice a4 (n2 + 1) c4).ownBlock = some q → (Value.slice a1 n1 c1).ownBlock ≠ some q := (fun q hq hk => (HROW.out q hq).elim (fun x => HAP.out q (by first | exact hk | exact hq) (by first | exact x | exact hk)) (fun x => by have h1 := (HO1.out.lt q hk).2; simp at x; omega))
        have HAN := Lib.hid hapn
        clear hap ho4 lo4 ho5 hmq hrow htw4 hoo hapn
        refine (tstop_any (w4.alloc (.cells #[.int .i64 id] 3)) p (some b) B M R _ (HT4.out.keep (Mod.alloc (fun _ => False) w4 _) (fun _ _ x => x)) _ 1 1 [id] rfl (Rd.lit 3 [.int .i64 id] (0, 0) w4.heap.size 1 rfl rfl (by decide)) (by omega) (fun q hq hk => by have h2 := HPL.out q (.inr hk); have h3 := HT4.out.lt q (.inr hk); have hq2 : w4.heap.size = q := (by simpa [Value.ownBlock] using hq); exact absurd hq2 (by omega)) (fun x hx => by simp at hx; subst hx; exact HEW.out.1)).mono ?_
        rintro e5 w5 ⟨rfl, ht5, hm5⟩
        have hst : stopL (P.filterMap (dueW B M R now) ++ e :: Q) [id] = stopW (P.filterMap (dueW B M R now) ++ e :: Q) e.id := by rw [HID.out]; rfl
        rw [hst, stopW_mid HRI.out, ← HS2.out] at ht5
        have HT5 := Lib.hid ht5
        have HM5 : Hid (Mod (tmF p (some b)) w4 w5) := Lib.hid ((Mod.alloc (fun _ => False) w4 _).trans hm5 (fun _ _ x => x.elim) (fun _ _ x => .inr x))
        clear ht5 hm5 hst
        go_wp2_with fail
        go_roundw
        case rel => exact ⟨j + 1, n1, n2 + 1, a1, a4, c1, c4, hlt, rfl, rfl, by go_num, by rw [HGA2.out]; exact HL1.out, by rw [HGO2.out, List.length_append, HL2.out]; rfl,
          by rw [HGA2.out]; exact Own.keep HP4.out HM5.out (fun q hq hk => by have h1 := (HP4.out.lt q hq).1; have h2 := HPL.out q hk; have h3 := HSD.out; omega),
          by rw [HGO2.out, List.map_append]; exact Own.keep HO5.out HM5.out (fun q hq hk => by have h1 := (HO5.out.lt q hq).1; have h2 := HPL.out q hk; have h3 := HSD.out; omega), fun q hq hk => HAN.out q hk hq, HT5.out,
          (HM.out.trans HMQ.out (H := tmF p (some b)) (fun _ _ x => x) (fun i hi x => by have h1 := (HO2.out.lt i x).1; omega)).trans HM5.out (fun _ _ x => x) (fun _ _ x => x)⟩
        case measure => simp [intOf]; omega
end Go.Proofs.Ytdahoecejnnjkaa
