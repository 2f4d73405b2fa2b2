/- rank's has and over, by contract. -/
import Derived.Test.YtjjedebjbgpimaaGreatAr2
import Derived.Test.YtjjedebjbgpimaaGreatKWH
namespace Go.Proofs.YtjjedebjbgpimaaGreat
open Go.RowKit Mile
set_option maxRecDepth 100000
attribute [local go_sem] Oper.semAt_some
set_option maxHeartbeats 1000000 in
theorem has1_any (w : World) (x : Stp) (b : Nat) (v : Int) (hb : Blk w b 3 [.int .i64 v]) : Calls Tryz.prog 151 #[.agg #[.int .i64 x.1, .int .i64 x.2.1, .int .i64 x.2.2], .pointer (some ⟨b, 0, none⟩)] w fun e w' => e = .returned (.bool (x.1 == v)) ∧ Mod (fun _ => False) w w' := by
  obtain ⟨x1, x2, x3⟩ := x
  simp only
  have hm : Mod (fun _ => False) w (w.alloc (.cells #[.int .i64 x1, .int .i64 x2, .int .i64 x3] 148)) := Mod.alloc _ _ _
  have q := hb.cell 0 rfl
  have hl := hb.lt
  have HM := Lib.hid hm
  clear hm hb
  go_enter Tryz.func151, Tryz.ntmps151
  go_wp2_with fail
  go_ret
  exact ⟨rfl, HM.out⟩
set_option maxHeartbeats 4000000 in
theorem hasI_any (b : Nat) (v : Int) (w : World) (a : Option Addr) (n c : Nat) (xs : List Stp) (hn : xs.length = n) (hr : Rd w 3 (.slice a n c) n (xs.flatMap c3s)) (hb : n ≤ 1000000) (hbx : Blk w b 3 [.int .i64 v]) :
    Calls Tryz.prog 160 #[.slice a n c, .func (.func 151) #[] #[.pointer (some ⟨b, 0, none⟩)]] w fun e w' => (∃ r : Int, e = .returned (.int .i64 r) ∧ decide (0 ≤ r) = xs.any (fun x => x.1 == v)) ∧ Mod (fun _ => False) w w' := by
  obtain ⟨iI, hiI, hzI, hsI, hbI⟩ := info_parts infoStA
  have HBX := Lib.hid hbx
  have HN := Lib.hid hn
  have HR := Lib.hid hr
  clear hn hbx hr
  go_enter Tryz.func160, Tryz.ntmps160
  go_wp2_with fail
  go_loopw [8] (fun i wr => ∃ k : Nat, k ≤ n ∧ i = .int .i64 k ∧ Mod (fun _ => False) w wr ∧ ∀ x ∈ xs.take k, (x.1 == v) = false) (fun i _ => n - (intOf i).toNat)
  case atStart => exact ⟨0, by omega, rfl, Mod.refl _ _, fun x hx => by simp at hx⟩
  case round =>
    obtain ⟨k, hk, rfl, hm, hall⟩ := hrel
    obtain ⟨wo, hwo⟩ : ∃ x : World, x = wr := ⟨_, rfl⟩
    subst hwo
    have HM := Lib.hid hm
    have HA := Lib.hid hall
    clear hm hall
    by_cases hlt : k < n
    · have z0 : decide ((k : Int) < (n : Int)) = true := by simp; omega
      have hkl : k < xs.length := by rw [HN.out]; exact hlt
      obtain ⟨eb, eo, hpl, e0, e1, e2⟩ := rd3s (HR.out.keep HM.out (fun _ _ e => e)) k hkl
      have hix := fun wx => run_indexS (P := Tryz.prog) wx 145 148 iI 3 Tryz.underlying145 hiI hsI a n c k hlt (HR.out.some_ (by omega))
      rw [hpl] at hix
      obtain ⟨x, hx⟩ : ∃ x, xs[k] = x := ⟨_, rfl⟩
      rw [hx] at e0 e1 e2
      have HX := Lib.hid hx
      clear hx hpl
      obtain ⟨r, hpb⟩ : ∃ r, (x.1 == v) = r := ⟨_, rfl⟩
      have HP := Lib.hid hpb
      clear hpb
      go_wp2_with fail
      refine (has1_any wo x b v (HBX.out.keep HM.out (fun e => e))).mono ?_
      rintro e w2 ⟨rfl, hm2⟩
      rw [HP.out]
      have HM2 := Lib.hid (HM.out.of2 hm2)
      clear hm2 hix e0 e1 e2
      cases r with
      | true =>
        go_wp2_with fail
        go_ret
        refine ⟨⟨k, rfl, ?_⟩, HM2.out⟩
        rw [decide_eq_true (by omega), eq_comm, List.any_eq_true]
        exact ⟨xs[k], List.getElem_mem hkl, by rw [HX.out]; exact HP.out⟩
      | false =>
        go_wp2_with fail
        go_roundw
        case rel =>
          refine ⟨k + 1, hlt, by go_num, HM2.out, fun y hy => ?_⟩
          rw [List.take_succ_eq_append_getElem hkl] at hy
          rcases List.mem_append.1 hy with h | h
          · exact HA.out y h
          · rw [List.mem_singleton] at h; rw [h, HX.out]; exact HP.out
        case measure => simp [intOf]; omega
    · have z0 : decide ((k : Int) < (n : Int)) = false := by simp; omega
      go_wp2_with fail
      go_ret
      refine ⟨⟨-1, rfl, ?_⟩, HM.out⟩
      rw [decide_eq_false (by omega), eq_comm, List.any_eq_false]
      intro x hx
      have := HA.out x (by rw [List.take_of_length_le (by have := HN.out; omega)]; exact hx)
      rw [this]; simp
set_option maxHeartbeats 1000000 in
theorem hasC_any (b : Nat) (v : Int) (w : World) (a : Option Addr) (n c : Nat) (xs : List Stp) (hn : xs.length = n) (hr : Rd w 3 (.slice a n c) n (xs.flatMap c3s)) (hb : n ≤ 1000000) (hbx : Blk w b 3 [.int .i64 v]) :
    Calls Tryz.prog 149 #[.slice a n c, .func (.func 151) #[] #[.pointer (some ⟨b, 0, none⟩)]] w fun e w' => e = .returned (.bool (xs.any (fun x => x.1 == v))) ∧ Mod (fun _ => False) w w' := by
  have HI := Lib.hid (hasI_any b v w a n c xs hn hr hb hbx)
  clear hn hr hb hbx
  go_enter Tryz.func149, Tryz.ntmps149
  go_wp2_with fail
  refine HI.out.mono ?_
  rintro e w2 ⟨⟨r, rfl, hr⟩, hm⟩
  have HM := Lib.hid hm
  clear hm
  go_wp2_with fail
  go_ret
  exact ⟨rfl, HM.out⟩
set_option maxHeartbeats 1000000 in
theorem over1_any (w : World) (x : Stp) (b : Nat) (v : Int) (hb : Blk w b 3 [.int .i64 v]) : Calls Tryz.prog 150 #[.agg #[.int .i64 x.1, .int .i64 x.2.1, .int .i64 x.2.2], .pointer (some ⟨b, 0, none⟩)] w fun e w' => e = .returned (.bool (x.2.2 == v)) ∧ Mod (fun _ => False) w w' := by
  obtain ⟨x1, x2, x3⟩ := x
  simp only
  have hm : Mod (fun _ => False) w (w.alloc (.cells #[.int .i64 x1, .int .i64 x2, .int .i64 x3] 148)) := Mod.alloc _ _ _
  have q := hb.cell 0 rfl
  have hl := hb.lt
  have HM := Lib.hid hm
  clear hm hb
  go_enter Tryz.func150, Tryz.ntmps150
  go_wp2_with fail
  go_ret
  exact ⟨rfl, HM.out⟩
set_option maxHeartbeats 4000000 in
theorem overI_any (b : Nat) (v : Int) (w : World) (a : Option Addr) (n c : Nat) (xs : List Stp) (hn : xs.length = n) (hr : Rd w 3 (.slice a n c) n (xs.flatMap c3s)) (hb : n ≤ 1000000) (hbx : Blk w b 3 [.int .i64 v]) :
    Calls Tryz.prog 160 #[.slice a n c, .func (.func 150) #[] #[.pointer (some ⟨b, 0, none⟩)]] w fun e w' => (∃ r : Int, e = .returned (.int .i64 r) ∧ decide (0 ≤ r) = xs.any (fun x => x.2.2 == v)) ∧ Mod (fun _ => False) w w' := by
  obtain ⟨iI, hiI, hzI, hsI, hbI⟩ := info_parts infoStA
  have HBX := Lib.hid hbx
  have HN := Lib.hid hn
  have HR := Lib.hid hr
  clear hn hbx hr
  go_enter Tryz.func160, Tryz.ntmps160
  go_wp2_with fail
  go_loopw [8] (fun i wr => ∃ k : Nat, k ≤ n ∧ i = .int .i64 k ∧ Mod (fun _ => False) w wr ∧ ∀ x ∈ xs.take k, (x.2.2 == v) = false) (fun i _ => n - (intOf i).toNat)
  case atStart => exact ⟨0, by omega, rfl, Mod.refl _ _, fun x hx => by simp at hx⟩
  case round =>
    obtain ⟨k, hk, rfl, hm, hall⟩ := hrel
    obtain ⟨wo, hwo⟩ : ∃ x : World, x = wr := ⟨_, rfl⟩
    subst hwo
    have HM := Lib.hid hm
    have HA := Lib.hid hall
    clear hm hall
    by_cases hlt : k < n
    · have z0 : decide ((k : Int) < (n : Int)) = true := by simp; omega
      have hkl : k < xs.length := by rw [HN.out]; exact hlt
      obtain ⟨eb, eo, hpl, e0, e1, e2⟩ := rd3s (HR.out.keep HM.out (fun _ _ e => e)) k hkl
      have hix := fun wx => run_indexS (P := Tryz.prog) wx 145 148 iI 3 Tryz.underlying145 hiI hsI a n c k hlt (HR.out.some_ (by omega))
      rw [hpl] at hix
      obtain ⟨x, hx⟩ : ∃ x, xs[k] = x := ⟨_, rfl⟩
      rw [hx] at e0 e1 e2
      have HX := Lib.hid hx
      clear hx hpl
      obtain ⟨r, hpb⟩ : ∃ r, (x.2.2 == v) = r := ⟨_, rfl⟩
      have HP := Lib.hid hpb
      clear hpb
      go_wp2_with fail
      refine (over1_any wo x b v (HBX.out.keep HM.out (fun e => e))).mono ?_
      rintro e w2 ⟨rfl, hm2⟩
      rw [HP.out]
      have HM2 := Lib.hid (HM.out.of2 hm2)
      clear hm2 hix e0 e1 e2
      cases r with
      | true =>
        go_wp2_with fail
        go_ret
        refine ⟨⟨k, rfl, ?_⟩, HM2.out⟩
        rw [decide_eq_true (by omega), eq_comm, List.any_eq_true]
        exact ⟨xs[k], List.getElem_mem hkl, by rw [HX.out]; exact HP.out⟩
      | false =>
        go_wp2_with fail
        go_roundw
        case rel =>
          refine ⟨k + 1, hlt, by go_num, HM2.out, fun y hy => ?_⟩
          rw [List.take_succ_eq_append_getElem hkl] at hy
          rcases List.mem_append.1 hy with h | h
          · exact HA.out y h
          · rw [List.mem_singleton] at h; rw [h, HX.out]; exact HP.out
        case measure => simp [intOf]; omega
    · have z0 : decide ((k : Int) < (n : Int)) = false := by simp; omega
      go_wp2_with fail
      go_ret
      refine ⟨⟨-1, rfl, ?_⟩, HM.out⟩
      rw [decide_eq_false (by omega), eq_comm, List.any_eq_false]
      intro x hx
      have := HA.out x (by rw [List.take_of_length_le (by have := HN.out; omega)]; exact hx)
      rw [this]; simp
set_option maxHeartbeats 1000000 in
theorem overC_any (b : Nat) (v : Int) (w : World) (a : Option Addr) (n c : Nat) (xs : List Stp) (hn : xs.length = n) (hr : Rd w 3 (.slice a n c) n (xs.flatMap c3s)) (hb : n ≤ 1000000) (hbx : Blk w b 3 [.int .i64 v]) :
    Calls Tryz.prog 149 #[.slice a n c, .func (.func 150) #[] #[.pointer (some ⟨b, 0, none⟩)]] w fun e w' => e = .returned (.bool (xs.any (fun x => x.2.2 == v))) ∧ Mod (fun _ => False) w w' := by
  have HI := Lib.hid (overI_any b v w a n c xs hn hr hb hbx)
  clear hn hr hb hbx
  go_enter Tryz.func149, Tryz.ntmps149
  go_wp2_with fail
  refine HI.out.mono ?_
  rintro e w2 ⟨⟨r, rfl, hr⟩, hm⟩
  have HM := Lib.hid hm
  clear hm
  go_wp2_with fail
  go_ret
  exact ⟨rfl, HM.out⟩
set_option maxHeartbeats 1000000 in
theorem rhas_any (v : Int) (w : World) (a : Option Addr) (n c : Nat) (xs : List Stp) (hn : xs.length = n) (hr : Rd w 3 (.slice a n c) n (xs.flatMap c3s)) (hb : n ≤ 1000000) :
    Calls Tryz.prog 136 #[.slice a n c, .int .i64 v] w fun e w' => e = .returned (.bool (xs.any (fun x => x.1 == v))) ∧ Mod (fun _ => False) w w' := by
  obtain ⟨w1, hw1⟩ : ∃ y, w.alloc (.cells #[.int .i64 v] 3) = y := ⟨_, rfl⟩
  have hm1 : Mod (fun _ => False) w w1 := by rw [← hw1]; exact Mod.alloc _ _ _
  have hb1 : Blk w1 w.heap.size 3 [.int .i64 v] := by rw [← hw1]; exact Blk.new w 3 [.int .i64 v]
  have HC := Lib.hid (hasC_any w.heap.size v w1 a n c xs hn (hr.keep hm1 (fun _ _ e => e)) hb hb1)
  have HM := Lib.hid hm1
  clear hn hr hb hm1 hb1
  go_enter Tryz.func136, Tryz.ntmps136
  go_wp2_with fail
  (try rw [hw1])
  refine HC.out.mono ?_
  rintro e w2 ⟨rfl, hm⟩
  have HM2 := Lib.hid (HM.out.of2 hm)
  clear hm
  go_wp2_with fail
  go_ret
  exact ⟨rfl, HM2.out⟩
set_option maxHeartbeats 1000000 in
theorem rover_any (v : Int) (w : World) (q o : Nat) (a : Option Addr) (n c : Nat) (xs : List Stp) (hn : xs.length = n) (hr : Rd w 3 (.slice a n c) n (xs.flatMap c3s)) (hb : n ≤ 1000000) (hq : w.cell? ⟨q, o, none⟩ = some (.slice a n c)) :
    Calls Tryz.prog 134 #[.pointer (some ⟨q, o, none⟩), .int .i64 v] w fun e w' => e = .returned (.bool (xs.any (fun x => x.2.2 == v))) ∧ Mod (fun _ => False) w w' := by
  obtain ⟨w1, hw1⟩ : ∃ y, w.alloc (.cells #[.int .i64 v] 3) = y := ⟨_, rfl⟩
  have hm1 : Mod (fun _ => False) w w1 := by rw [← hw1]; exact Mod.alloc _ _ _
  have hb1 : Blk w1 w.heap.size 3 [.int .i64 v] := by rw [← hw1]; exact Blk.new w 3 [.int .i64 v]
  have HC := Lib.hid (overC_any w.heap.size v w1 a n c xs hn (hr.keep hm1 (fun _ _ e => e)) hb hb1)
  have HM := Lib.hid hm1
  have hql := World.block_lt_of_cell? _ _ hq
  have hq1 := hm1.cell hq (fun e => e)
  clear hn hr hb hm1 hb1
  go_enter Tryz.func134, Tryz.ntmps134
  go_wp2_with fail
  (try rw [hw1])
  refine HC.out.mono ?_
  rintro e w2 ⟨rfl, hm⟩
  have HM2 := Lib.hid (HM.out.of2 hm)
  clear hm
  go_wp2_with fail
  go_ret
  exact ⟨rfl, HM2.out⟩
end Go.Proofs.YtjjedebjbgpimaaGreat
namespace Mile
open Go Go.RowKit
def heldE (v : Value) : Option (DataW Value × List MemPlace) := some (.held v, [])
def VMap (P : Program) (K : TypeId) (w : World) (b : Nat) (f : Int → Option Value) : Prop :=
  ∃ n D, w.ownsMap (H := Value) P K heldE b n D ∧ (∀ k c, f k = some c → (Lit.int .i64 k).wf = true) ∧
    ∀ k, (Lit.int .i64 k).wf = true → Maps.has D (.int .i64 k) = (f k).isSome ∧ ∀ z, D.atKey (.int .i64 k) (.held z) = .held ((f k).getD z)
theorem VMap.lt {P : Program} {K : TypeId} {w : World} {b : Nat} {f : Int → Option Value} (h : VMap P K w b f) : b < w.heap.size := by
  obtain ⟨n, D, h, _⟩ := h; exact h.lt
theorem VMap.keep {P : Program} {K : TypeId} {w w' : World} {b : Nat} {f : Int → Option Value} {G : Nat → Prop} (h : VMap P K w b f) (hm : Mod G w w') (hb : ¬ G b) : VMap P K w' b f := by
  obtain ⟨n, D, h, h2⟩ := h
  have hlt := h.lt
  obtain ⟨es, clock, hbk, F, hs, hD⟩ := h
  exact ⟨n, D, ⟨es, clock, (hm.block b hlt hb).trans hbk, F, hs, hD⟩, h2⟩
theorem VMap.made {P : Program} {K : TypeId} (w : World) : VMap P K (w.alloc (.map #[] 0)) w.heap.size (fun _ => none) :=
  ⟨0, .map [], World.ownsMap_made _ _ _ _, by simp, fun k _ => ⟨rfl, fun _ => rfl⟩⟩
theorem VMap.look {P : Program} {K E t : TypeId} {w : World} {b : Nat} {f : Int → Option Value} (h : VMap P K w b f) (ht : P.underlying t = some (.map K E)) (hk : P.underlying K = some (.int .i64)) {z : Value}
    (hz : (zeroValue E).run P w = .ok z w) (k : Int) (hw : (Lit.int .i64 k).wf = true) :
    (Instr.lookup t (.map (some b)) (.int .i64 k) true).run P w = .ok (.tuple #[(f k).getD z, .bool (f k).isSome]) w := by
  obtain ⟨n, D, h, h1, h2⟩ := h
  obtain ⟨v, ps, hrun, hv⟩ := h.look_ok (Maps.int_keyed hk) ht hz (zd := .held z) (zp := []) rfl (Maps.keyOf_int_mk hk hw)
  rw [(h2 k hw).1] at hrun
  rw [(h2 k hw).2 z] at hv
  unfold heldE at hv
  have hc := (Prod.mk.inj (Option.some.inj hv)).1
  injection hc with hc
  rw [hrun, hc]
theorem vlook_none {P : Program} {K E t : TypeId} {w : World} (ht : P.underlying t = some (.map K E)) (hk : P.underlying K = some (.int .i64)) {z : Value} (hz : (zeroValue E).run P w = .ok z w) (k : Int) (hw : (Lit.int .i64 k).wf = true) :
    (Instr.lookup t (.map none) (.int .i64 k) true).run P w = .ok (.tuple #[z, .bool false]) w := by
  have h := Maps.look_nil (w := w) true (Maps.int_keyed hk) ht hz (Maps.keyOf_int_mk hk hw)
  simpa using h
theorem vown_tight {P : Program} {K : TypeId} {w : World} {b n : Nat} {D : DataW Value} (h : w.ownsMap P K heldE b n D) : w.ownsMap P K heldE b (Maps.size D) D := by
  obtain ⟨es, clock, hb, F, hs, rfl⟩ := h
  exact ⟨es, clock, hb, F, by simp [Maps.size, length_sorted], rfl⟩
theorem vhas_wf {P : Program} {K : TypeId} {w : World} {b n : Nat} {D : DataW Value} (hk : P.underlying K = some (.int .i64)) (h : w.ownsMap P K heldE b n D) {j : Int} (hj : Maps.has D (.int .i64 j) = true) : (Lit.int .i64 j).wf = true := by
  obtain ⟨es, clock, hb, F, hs, rfl⟩ := h
  rw [Maps.has_eq, List.any_eq_true] at hj
  obtain ⟨p, hp, hpk⟩ := hj
  obtain ⟨v, hv⟩ := Maps.fit_keys F p (mem_sorted.1 hp)
  have e := (WideAt.sameKey_iff (isKey_int j)).1 hpk
  rw [e] at hv
  cases v <;> simp [keyOf, mapKey, hk] at hv
  obtain ⟨⟨rfl, h1⟩, rfl⟩ := hv
  exact h1

theorem vsize_le_of {P : Program} {K : TypeId} {w : World} {b n : Nat} {D : DataW Value} (hk : P.underlying K = some (.int .i64)) (h : w.ownsMap P K heldE b n D) {ks : List Int} (hks : ∀ k, Maps.has D (.int .i64 k) = true → k ∈ ks) : Maps.size D ≤ ks.length := by
  obtain ⟨es, clock, hb, F, hs, rfl⟩ := h
  have hkeys := Maps.fit_keys F
  have happ := Maps.fit_apart (Maps.int_keyed hk) F
  have hsz : Maps.size (H := Value) (DataW.map ((es.toList.map (WideElems.rg P K heldE)).foldr DataW.insert [])) = (es.toList.map (WideElems.rg (H := Value) P K heldE)).length := by simp [Maps.size, length_sorted]
  rw [hsz]
  have hh : ∀ p ∈ es.toList.map (WideElems.rg (H := Value) P K heldE), ∃ k ∈ ks, p.1 = .int .i64 k := by
    intro p hp
    obtain ⟨v, hv⟩ := hkeys p hp
    obtain ⟨k, hkk⟩ := keyOf_int_inv hk hv
    refine ⟨k, hks k ?_, hkk⟩
    rw [Maps.has_eq, List.any_eq_true]
    exact ⟨p, mem_sorted.2 hp, by rw [hkk]; exact (WideAt.sameKey_iff (isKey_int k)).2 rfl⟩
  generalize es.toList.map (WideElems.rg (H := Value) P K heldE) = L at *
  have hm : ∀ q ∈ L.map (·.1), q ∈ ks.map (Lit.int .i64) := by
    intro q hq
    obtain ⟨p, hp, rfl⟩ := List.mem_map.1 hq
    obtain ⟨k, hk', e⟩ := hh p hp
    rw [e]; exact List.mem_map_of_mem hk'
  have := nodup_length (L.map (·.1)) (ks.map (Lit.int .i64)) (by rw [List.pairwise_map]; exact happ) hm
  simpa using this

theorem VMap.store {P : Program} {K E t : TypeId} {w : World} {b : Nat} {f : Int → Option Value} (h : VMap P K w b f) (ht : P.underlying t = some (.map K E)) (hk : P.underlying K = some (.int .i64))
    (ks : List Int) (hks : ∀ k, f k ≠ none → k ∈ ks) (hl : ks.length < maxLen) (k : Int) (c : Value) (hw : (Lit.int .i64 k).wf = true) :
    ∃ w', (Instr.mapUpdate t (.map (some b)) (.int .i64 k) c).run P w = .ok () w' ∧ VMap P K w' b (fun j => if j = k then some c else f j) ∧ Mod (fun i => i = b) w w' := by
  obtain ⟨n, D, h, h1, h2⟩ := h
  have hsz := vsize_le_of hk h (ks := ks) (fun j hj => hks j (by
    by_cases hwj : (Lit.int .i64 j).wf = true
    · rw [(h2 j hwj).1] at hj
      intro e; rw [e] at hj; cases hj
    · exact absurd (vhas_wf hk h hj) hwj))
  obtain ⟨w', hrun, hown, hg⟩ := (vown_tight h).update (Maps.int_keyed hk) ht (by omega) (Maps.keyOf_int_mk hk hw) (val := c) (d := .held c) (ps := []) rfl
  refine ⟨w', hrun, ⟨_, _, hown, ?_, ?_⟩, ?_⟩
  · intro j d hj
    by_cases e : j = k
    · subst e; exact hw
    · simp [e] at hj; exact h1 j d hj
  · intro j hj
    by_cases e : j = k
    · subst e
      simp [Maps.has_put_same h.isMap (isKey_int j), Maps.atKey_put_same h.isMap (isKey_int j)]
    · have hne : (Lit.int .i64 j) ≠ .int .i64 k := by intro h; injection h with _ h; exact e h
      rw [Maps.has_put_other hne]
      refine ⟨by simpa [e] using (h2 j hj).1, fun z => ?_⟩
      rw [Maps.atKey_put_other hne]
      simpa [e] using (h2 j hj).2 z
  · exact (Mod.ofGrown hg).mono (fun i _ h => (Option.some.inj h).symm)
end Mile
namespace Go.Proofs.YtjjedebjbgpimaaGreat
open Go.RowKit Mile
set_option maxRecDepth 100000
attribute [local go_sem] Oper.semAt_some
def nearC (al : Nat → Value) (ml : Nat → Option Nat) (n : Nat) : List Value := (List.range n).flatMap fun i => [al i, .map (ml i)]
theorem nearC_succ (al : Nat → Value) (ml : Nat → Option Nat) (n : Nat) : nearC al ml (n + 1) = nearC al ml n ++ [al n, .map (ml n)] := by
  unfold nearC
  rw [List.range_succ, List.flatMap_append]
  rfl
theorem nearC_len (al : Nat → Value) (ml : Nat → Option Nat) (n : Nat) : (nearC al ml n).length = n * 2 := by
  induction n with
  | zero => rfl
  | succ n ih => rw [nearC_succ, List.length_append, ih]; simp; omega
theorem nearC_at (al : Nat → Value) (ml : Nat → Option Nat) (n : Nat) : ∀ i, i < n → (nearC al ml n)[i * 2]? = some (al i) ∧ (nearC al ml n)[i * 2 + 1]? = some (.map (ml i)) := by
  induction n with
  | zero => intro i h; omega
  | succ n ih =>
    intro i h
    rw [nearC_succ]
    have hl := nearC_len al ml n
    by_cases e : i = n
    · subst e
      rw [List.getElem?_append_right (by omega), List.getElem?_append_right (by omega), hl]
      simp
    · rw [List.getElem?_append_left (by omega), List.getElem?_append_left (by omega)]
      exact ih i (by omega)
theorem nearC_congr {al al' : Nat → Value} {ml ml' : Nat → Option Nat} {n : Nat} (h : ∀ i, i < n → al i = al' i ∧ ml i = ml' i) : nearC al ml n = nearC al' ml' n := by
  induction n with
  | zero => rfl
  | succ n ih => rw [nearC_succ, nearC_succ, ih (fun i hi => h i (by omega)), (h n (by omega)).1, (h n (by omega)).2]
theorem nearC_setA (al : Nat → Value) (ml : Nat → Option Nat) (x : Value) (n : Nat) : ∀ i, i < n → (nearC al ml n).set (i * 2) x = nearC (upN al i x) ml n := by
  induction n with
  | zero => intro i h; omega
  | succ n ih =>
    intro i h
    rw [nearC_succ, nearC_succ]
    have hl := nearC_len al ml n
    by_cases e : i = n
    · subst e
      rw [List.set_append_right _ _ (by omega), hl, Nat.sub_self, upN_at]
      rw [nearC_congr (al := al) (al' := upN al i x) (ml := ml) (ml' := ml) (n := i) (fun j hj => ⟨(upN_ne _ _ (by omega)).symm, rfl⟩)]
      rfl
    · rw [List.set_append_left _ _ (by omega), ih i (by omega), upN_ne _ _ (fun e2 => e e2.symm)]
theorem nearC_setM (al : Nat → Value) (ml : Nat → Option Nat) (b : Option Nat) (n : Nat) : ∀ i, i < n → (nearC al ml n).set (i * 2 + 1) (.map b) = nearC al (upN ml i b) n := by
  induction n with
  | zero => intro i h; omega
  | succ n ih =>
    intro i h
    rw [nearC_succ, nearC_succ]
    have hl := nearC_len al ml n
    by_cases e : i = n
    · subst e
      rw [List.set_append_right _ _ (by omega), hl, show i * 2 + 1 - i * 2 = 1 by omega, upN_at]
      rw [nearC_congr (al := al) (al' := al) (ml := ml) (ml' := upN ml i b) (n := i) (fun j hj => ⟨rfl, (upN_ne _ _ (by omega)).symm⟩)]
      rfl
    · rw [List.set_append_left _ _ (by omega), ih i (by omega), upN_ne _ _ (fun e2 => e e2.symm)]
def RowS (w : World) (v : Value) (R : List Stp) : Prop := ∃ a c, v = .slice a R.length c ∧ w.ownsRow 0 148 3 v R.length (R.flatMap c3s)
theorem RowS.keep {w w' : World} {v : Value} {R : List Stp} {G : Nat → Prop} (h : RowS w v R) (hm : Mod G w w') (hG : ∀ k, v.ownBlock = some k → ¬ G k) : RowS w' v R := by
  obtain ⟨a, c, h1, h2⟩ := h
  exact ⟨a, c, h1, Own.keep h2 hm hG⟩
theorem RowS.ty {w : World} {v : Value} {R : List Stp} (h : RowS w v R) {k : Nat} (hk : v.ownBlock = some k) : BlT w k 148 := by
  obtain ⟨a, c, _, h2⟩ := h
  exact BlT.own h2 hk
theorem vmap_not {K : TypeId} {w : World} {b j : Nat} {T : TypeId} {f : Int → Option Value} (h : VMap Tryz.prog K w b f) (hj : BlT w j T) : b ≠ j := fun e => by
  obtain ⟨n, D, ⟨es, cl, h1, _⟩, _⟩ := h
  obtain ⟨cur, fz, h2⟩ := hj
  rw [e, h2] at h1
  cases h1
structure RM (w : World) (p q tp n : Nat) (L : List Ar) (D : Nat → Int → List Int) (al : Nat → Value) (ml : Nat → Option Nat) (le : Nat → Int → Option Value) : Prop where
  n512 : n ≤ 512
  blk : Blk w p 114 [.pointer (some ⟨tp, 0, none⟩), .slice (some ⟨q, 0, none⟩) n n]
  row : Blk w q 153 (nearC al ml n)
  av : ∀ i, i < n → al i = .slice none 0 0 ∨ ∃ R, RowS w (al i) R ∧ R ≠ [] ∧ RowOf n L i (-1) (D i (-1)) 31 R
  mv : ∀ i, i < n → ∀ b, ml i = some b → VMap Tryz.prog 3 w b (le i)
  ml0 : ∀ i, i < n → ml i = none → le i = fun _ => none
  lv : ∀ i, i < n → ∀ v x, le i v = some x → ∃ (u : Nat) (R : List Stp), v = (u : Int) ∧ u < n ∧ RowS w x R ∧ RowOf n L i (u : Int) (D i (u : Int)) 30 R
  ov : ∀ i, i < n → ∀ v x, le i v = some x → ∃ R, RowS w (al i) R ∧ ∃ s ∈ R, s.1 = v
  one : ∀ i j, i < n → j < n → ∀ b, ml i = some b → ml j = some b → i = j
def rmF (p q n : Nat) (al : Nat → Value) (ml : Nat → Option Nat) (le : Nat → Int → Option Value) : Nat → Prop := fun k =>
  k = p ∨ k = q ∨ (∃ i, i < n ∧ ml i = some k) ∨ (∃ i, i < n ∧ (al i).ownBlock = some k) ∨ ∃ i, i < n ∧ ∃ v x, le i v = some x ∧ x.ownBlock = some k
section
variable {w w' : World} {p q tp n : Nat} {L : List Ar} {D : Nat → Int → List Int} {al : Nat → Value} {ml : Nat → Option Nat} {le : Nat → Int → Option Value} {G : Nat → Prop}
theorem RM.aty (h : RM w p q tp n L D al ml le) {i k : Nat} (hi : i < n) (hk : (al i).ownBlock = some k) : BlT w k 148 := by
  rcases h.av i hi with e | ⟨R, h1, _⟩
  · rw [e] at hk; cases hk
  · exact h1.ty hk
theorem RM.lty (h : RM w p q tp n L D al ml le) {i k : Nat} {v : Int} {x : Value} (hi : i < n) (hx : le i v = some x) (hk : x.ownBlock = some k) : BlT w k 148 := by
  obtain ⟨u, R, _, _, h1, _⟩ := h.lv i hi v x hx
  exact h1.ty hk
theorem RM.lt (h : RM w p q tp n L D al ml le) {k : Nat} (hk : rmF p q n al ml le k) : k < w.heap.size := by
  rcases hk with rfl | rfl | ⟨i, hi, hk⟩ | ⟨i, hi, hk⟩ | ⟨i, hi, v, x, hx, hk⟩
  · exact h.blk.lt
  · exact h.row.lt
  · exact (h.mv i hi k hk).lt
  · exact (h.aty hi hk).lt
  · exact (h.lty hi hx hk).lt
theorem RM.keep (h : RM w p q tp n L D al ml le) (hm : Mod G w w') (hG : ∀ k, rmF p q n al ml le k → ¬ G k) : RM w' p q tp n L D al ml le :=
  ⟨h.n512, h.blk.keep hm (hG p (.inl rfl)), h.row.keep hm (hG q (.inr (.inl rfl))),
   fun i hi => (h.av i hi).imp id (fun ⟨R, h1, h2⟩ => ⟨R, h1.keep hm (fun k hk => hG k (.inr (.inr (.inr (.inl ⟨i, hi, hk⟩))))), h2⟩),
   fun i hi b hb => (h.mv i hi b hb).keep hm (hG b (.inr (.inr (.inl ⟨i, hi, hb⟩)))), h.ml0,
   fun i hi v x hx => by
     obtain ⟨u, R, h1, h2, h3, h4⟩ := h.lv i hi v x hx
     exact ⟨u, R, h1, h2, h3.keep hm (fun k hk => hG k (.inr (.inr (.inr (.inr ⟨i, hi, v, x, hx, hk⟩))))), h4⟩,
   fun i hi v x hx => by
     obtain ⟨R, h1, h2⟩ := h.ov i hi v x hx
     exact ⟨R, h1.keep hm (fun k hk => hG k (.inr (.inr (.inr (.inl ⟨i, hi, hk⟩))))), h2⟩, h.one⟩
theorem RM.later (h : RM w p q tp n L D al ml le) (hm : Mod (fun _ => False) w w') : RM w' p q tp n L D al ml le := h.keep hm (fun _ _ e => e)
theorem RM.pq (h : RM w p q tp n L D al ml le) : p ≠ q := BlT.ne (BlT.blk h.blk) (BlT.blk h.row) (by decide)
theorem RM.setA (h : RM w p q tp n L D al ml le) {i : Nat} (hi : i < n) (hnil : al i = .slice none 0 0) {x : Value} {R : List Stp} (hx : RowS w x R) (hne : R ≠ []) (hs : RowOf n L i (-1) (D i (-1)) 31 R) : RM (w.setCell ⟨q, i * 2, none⟩ x) p q tp n L D (upN al i x) ml le := by
  have hm : Mod (fun k => k = q) w (w.setCell ⟨q, i * 2, none⟩ x) := Mod.setCell _ _ _ rfl
  have hq := BlT.blk h.row
  have hr : ∀ {v : Value} {R : List Stp}, RowS w v R → RowS (w.setCell ⟨q, i * 2, none⟩ x) v R := fun hv => hv.keep hm (fun k hk => BlT.ne (hv.ty hk) hq (by decide))
  refine ⟨h.n512, h.blk.keep hm h.pq, by rw [← nearC_setA al ml x n i hi]; exact h.row.set _ _, fun j hj => ?_, fun j hj b hb => (h.mv j hj b hb).keep hm (vmap_not (h.mv j hj b hb) hq), h.ml0, fun j hj v y hy => ?_, fun j hj v y hy => ?_, h.one⟩
  · by_cases e : j = i
    · subst e
      rw [upN_at]
      exact .inr ⟨R, hr hx, hne, hs⟩
    · rw [upN_ne _ _ e]
      exact (h.av j hj).imp id (fun ⟨R, h1, h2⟩ => ⟨R, hr h1, h2⟩)
  · obtain ⟨u, R, h1, h2, h3, h4⟩ := h.lv j hj v y hy
    exact ⟨u, R, h1, h2, hr h3, h4⟩
  · obtain ⟨R, h1, h2⟩ := h.ov j hj v y hy
    by_cases e : j = i
    · subst e
      rw [hnil] at h1
      obtain ⟨a, c, h3, _⟩ := h1
      have h4 : 0 = R.length := by injection h3
      have h5 := List.eq_nil_of_length_eq_zero h4.symm
      subst h5
      obtain ⟨s, hs2, _⟩ := h2
      cases hs2
    · rw [upN_ne _ _ e]
      exact ⟨R, hr h1, h2⟩
end
def RO (w : World) (p tp n : Nat) (L : List Ar) (D : Nat → Int → List Int) (F : Nat → Prop) : Prop := ∃ q al ml le, RM w p q tp n L D al ml le ∧ F = rmF p q n al ml le
def RQ (p tp n : Nat) (L : List Ar) (D : Nat → Int → List Int) (F : Nat → Prop) (w w' : World) : Prop := ∃ F', RO w' p tp n L D F' ∧ (∀ k, F' k → F k ∨ w.heap.size ≤ k) ∧ Mod F w w'
theorem RO.keep {w w' : World} {p tp n : Nat} {L : List Ar} {D : Nat → Int → List Int} {F G : Nat → Prop} (h : RO w p tp n L D F) (hm : Mod G w w') (hG : ∀ k, F k → ¬ G k) : RO w' p tp n L D F := by
  obtain ⟨q, al, ml, le, h1, rfl⟩ := h
  exact ⟨q, al, ml, le, h1.keep hm hG, rfl⟩
theorem RO.later {w w' : World} {p tp n : Nat} {L : List Ar} {D : Nat → Int → List Int} {F : Nat → Prop} (h : RO w p tp n L D F) (hm : Mod (fun _ => False) w w') : RO w' p tp n L D F := h.keep hm (fun _ _ e => e)
theorem RO.lt {w : World} {p tp n : Nat} {L : List Ar} {D : Nat → Int → List Int} {F : Nat → Prop} (h : RO w p tp n L D F) : ∀ k, F k → k < w.heap.size := by
  obtain ⟨q, al, ml, le, h1, rfl⟩ := h
  exact fun k hk => h1.lt hk
theorem RO.n512 {w : World} {p tp n : Nat} {L : List Ar} {D : Nat → Int → List Int} {F : Nat → Prop} (h : RO w p tp n L D F) : n ≤ 512 := by
  obtain ⟨q, al, ml, le, h1, rfl⟩ := h
  exact h1.n512
theorem RO.cells {w : World} {p tp n : Nat} {L : List Ar} {D : Nat → Int → List Int} {F : Nat → Prop} (h : RO w p tp n L D F) : F p ∧ ∃ q, w.cell? ⟨p, 0, none⟩ = some (.pointer (some ⟨tp, 0, none⟩)) ∧ w.cell? ⟨p, 1, none⟩ = some (.slice (some ⟨q, 0, none⟩) n n) := by
  obtain ⟨q, al, ml, le, h1, rfl⟩ := h
  exact ⟨.inl rfl, q, h1.blk.cell 0 rfl, h1.blk.cell 1 rfl⟩
theorem RQ.trans {p tp n : Nat} {L : List Ar} {D : Nat → Int → List Int} {F F1 : Nat → Prop} {w w1 w2 : World} (hs : ∀ k, F1 k → F k ∨ w.heap.size ≤ k) (hm : Mod F w w1) (h : RQ p tp n L D F1 w1 w2) : RQ p tp n L D F w w2 := by
  obtain ⟨F2, h1, h2, h3⟩ := h
  have := hm.size
  exact ⟨F2, h1, fun k hk => (h2 k hk).elim (hs k) (fun e => .inr (by omega)), hm.trans h3 (fun _ _ e => e) (fun k hk e => (hs k e).elim id (fun e => by omega))⟩
theorem RQ.same {p tp n : Nat} {L : List Ar} {D : Nat → Int → List Int} {F : Nat → Prop} {w w' : World} (h : RO w p tp n L D F) (hm : Mod (fun _ => False) w w') : RQ p tp n L D F w w' := ⟨F, h.later hm, fun _ e => .inl e, hm.mono (fun _ _ e => e.elim)⟩
theorem infoNr : (Tryz.prog.info? 153).map (fun i => (i.zero, i.size, i.bytes)) = some (some (.agg #[.slice none 0 0, .map none]), 2, 32) := by kernel_rfl
theorem i64_small (v : Int) (h : -1000000000000000 ≤ v ∧ v ≤ 1000000000000000) : (Lit.int .i64 v).wf = true := (i64_wf v).2 (by omega)
def LeaveP (q o : Nat) (cs : List Value) (mb : Option Nat) (f : Int → Option Value) (v : Int) (x : Value) (w : World) (e : Ending) (w' : World) : Prop :=
  ∃ b', (mb = some b' ∨ (mb = none ∧ w.heap.size ≤ b')) ∧ e = .returned x ∧ Blk w' q 153 (cs.set (o + 1) (.map (some b'))) ∧ VMap Tryz.prog 3 w' b' (fun j => if j = v then some x else f j) ∧ Mod (fun k => k = q ∨ mb = some k) w w'
set_option maxHeartbeats 4000000 in
theorem leave_any (w : World) (q o : Nat) (cs : List Value) (hb : Blk w q 153 cs) (mb : Option Nat) (hq : cs[o + 1]? = some (.map mb)) (f : Int → Option Value) (hf0 : mb = none → f = fun _ => none) (hf : ∀ b, mb = some b → VMap Tryz.prog 3 w b f)
    (v : Int) (hv : -1000000000000000 ≤ v ∧ v ≤ 1000000000000000) (x : Value) (ks : List Int) (hks : ∀ k, f k ≠ none → k ∈ ks) (hkl : ks.length ≤ 1000000) :
    Calls Tryz.prog 135 #[.pointer (some ⟨q, o, none⟩), .int .i64 v, x] w (LeaveP q o cs mb f v x w) := by
  have hw := i64_small v hv
  have hnm := fun (wx : World) => run_eql_map_nil wx 151 3 145 mb Tryz.underlying151
  have hm63 : ks.length < maxLen := by unfold maxLen; omega
  have c1 := hb.cell (o + 1) hq
  have f1 := hb.free (o + 1)
  have hlq := hb.lt
  have hol : o + 1 < cs.length := by
    rcases Nat.lt_or_ge (o + 1) cs.length with h | h
    · exact h
    · rw [List.getElem?_eq_none h] at hq; cases hq
  cases mb with
  | some b =>
    have hvm := hf b rfl
    have hbq := vmap_not hvm (BlT.blk hb)
    obtain ⟨w2, hrun, hvm2, hm2⟩ := hvm.store (t := 151) Tryz.underlying151 Tryz.underlying3 ks hks hm63 v x hw
    have hb2 := hb.keep hm2 (fun e => hbq e.symm)
    have hset : cs.set (o + 1) (.map (some b)) = cs := by
      apply List.ext_getElem?
      intro j
      rw [List.getElem?_set]
      by_cases e : o + 1 = j
      · subst e
        rw [if_pos rfl, if_pos hol, hq]
      · rw [if_neg e]
    have HF := Lib.hid (And.intro hvm2 (And.intro hm2 hb2))
    have HS := Lib.hid hset
    clear hf hf0 hvm hvm2 hm2 hb2 hset hb hks
    go_enter Tryz.func135, Tryz.ntmps135
    go_wp2_with fail
    go_ret
    obtain ⟨h1, h2, h3⟩ := HF.out
    exact ⟨b, .inl rfl, rfl, by rw [HS.out]; exact h3, h1, h2.mono (fun k _ e => .inr (by have e2 : k = b := e; rw [e2]))⟩
  | none =>
    obtain rfl := hf0 rfl
    obtain ⟨w1, hw1⟩ : ∃ y, w.alloc (.map #[] 0) = y := ⟨_, rfl⟩
    have hm1 : Mod (fun _ => False) w w1 := by rw [← hw1]; exact Mod.alloc _ _ _
    have hv1 : VMap Tryz.prog 3 w1 w.heap.size (fun _ => none) := by rw [← hw1]; exact VMap.made w
    have hb1 := hb.keep hm1 (fun e => e)
    have hms : Mod (fun k => k = q) w1 (w1.setCell ⟨q, o + 1, none⟩ (.map (some w.heap.size))) := Mod.setCell _ _ _ rfl
    have hb2 := hb1.set (o + 1) (.map (some w.heap.size))
    have hv2 := hv1.keep hms (fun e => by have e2 : w.heap.size = q := e; omega)
    obtain ⟨w2, hw2⟩ : ∃ y, w1.setCell ⟨q, o + 1, none⟩ (.map (some w.heap.size)) = y := ⟨_, rfl⟩
    rw [hw2] at hms hb2 hv2
    obtain ⟨w3, hrun, hvm3, hm3⟩ := hv2.store (t := 151) Tryz.underlying151 Tryz.underlying3 [] (fun k hk => absurd rfl hk) (by unfold maxLen; decide) v x hw
    have hmt : Mod (fun k => k = q ∨ none = some k) w w3 := (hm1.trans hms (fun _ _ e => e.elim) (fun _ _ e => .inl e)).trans hm3 (fun _ _ e => e) (fun k hk e => by have e2 : k = w.heap.size := e; omega)
    have hb3 := hb2.keep hm3 (fun e => by have e2 : q = w.heap.size := e; omega)
    have c2 := hb2.cell (o + 1) (v := .map (some w.heap.size)) (by rw [List.getElem?_set, if_pos rfl, if_pos hol])
    have f2 := hb1.free (o + 1)
    have c3 := hb1.cell (o + 1) hq
    have HF := Lib.hid (And.intro hvm3 (And.intro hmt hb3))
    clear hf hf0 hm1 hv1 hb1 hms hb2 hv2 hvm3 hm3 hmt hb3 hb hks
    have hmm := @run_makeMap Tryz.prog
    go_enter Tryz.func135, Tryz.ntmps135
    go_wp2_with fail
    go_ret
    obtain ⟨h1, h2, h3⟩ := HF.out
    exact ⟨w.heap.size, .inr ⟨rfl, Nat.le_refl _⟩, rfl, h3, h1, h2⟩
def sumF (xs : List Stp) : Int → Option Int := xs.foldl (fun f x j => if j = x.1 then some x.2.1 else f j) (fun _ => none)
theorem sumF_step (xs : List Stp) (x : Stp) : sumF (xs ++ [x]) = fun j => if j = x.1 then some x.2.1 else sumF xs j := by
  unfold sumF
  rw [List.foldl_append]
  rfl
theorem list_snoc {α : Type} {P : List α → Prop} (h0 : P []) (h1 : ∀ l x, P l → P (l ++ [x])) (l : List α) : P l := by
  have h : ∀ k, P (l.take k) := by
    intro k
    induction k with
    | zero => exact h0
    | succ k ih =>
      by_cases hk : k < l.length
      · rw [List.take_succ_eq_append_getElem hk]; exact h1 _ _ ih
      · rw [List.take_of_length_le (by omega)] at ih ⊢; exact ih
  have := h l.length
  rwa [List.take_length] at this
theorem sumF_mem (xs : List Stp) : ∀ k, sumF xs k ≠ none → k ∈ xs.map (·.1) := by
  refine list_snoc (P := fun xs => ∀ k, sumF xs k ≠ none → k ∈ xs.map (·.1)) (fun k h => absurd rfl h) (fun xs x ih k h => ?_) xs
  · rw [sumF_step] at h
    simp only at h
    rw [List.map_append]
    by_cases e : k = x.1
    · exact List.mem_append_right _ (by rw [e]; simp)
    · rw [if_neg e] at h
      exact List.mem_append_left _ (ih k h)
theorem sumF_some (xs : List Stp) (hnd : (xs.map (·.1)).Nodup) : ∀ k s, sumF xs k = some s ↔ ∃ b, (k, s, b) ∈ xs := by
  revert hnd
  refine list_snoc (P := fun xs => (xs.map (·.1)).Nodup → ∀ k s, sumF xs k = some s ↔ ∃ b, (k, s, b) ∈ xs) (fun _ k s => ⟨fun h => (by cases h), fun ⟨_, h⟩ => (by cases h)⟩) (fun xs x ih hnd k s => ?_) xs
  · rw [List.map_append] at hnd
    obtain ⟨h1, h2, h3⟩ := List.nodup_append.1 hnd
    rw [sumF_step]
    simp only
    by_cases e : k = x.1
    · rw [if_pos e]
      constructor
      · intro h
        exact ⟨x.2.2, List.mem_append_right _ (by rw [e, ← Option.some.inj h]; simp)⟩
      · rintro ⟨b, h⟩
        rcases List.mem_append.1 h with h | h
        · exact absurd e (h3 k (List.mem_map.2 ⟨_, h, rfl⟩) x.1 (by simp))
        · rw [List.mem_singleton] at h
          rw [← h]
    · rw [if_neg e, ih h1]
      constructor
      · rintro ⟨b, h⟩; exact ⟨b, List.mem_append_left _ h⟩
      · rintro ⟨b, h⟩
        rcases List.mem_append.1 h with h | h
        · exact ⟨b, h⟩
        · rw [List.mem_singleton] at h
          exact absurd (by rw [← h]) e
set_option maxHeartbeats 4000000 in
theorem sums_any (w : World) (a : Option Addr) (n c : Nat) (xs : List Stp) (hn : xs.length = n) (hr : Rd w 3 (.slice a n c) n (xs.flatMap c3s)) (hb : n ≤ 1000000) (hwf : ∀ x ∈ xs, (-1000000000000000 ≤ x.1 ∧ x.1 ≤ 1000000000000000) ∧ (-1000000000000000 ≤ x.2.1 ∧ x.2.1 ≤ 1000000000000000)) :
    Calls Tryz.prog 117 #[.slice a n c] w fun e w' => ∃ b, e = .returned (.map (some b)) ∧ w.heap.size ≤ b ∧ IMap Tryz.prog 3 3 w' b (sumF xs) ∧ Mod (fun _ => False) w w' := by
  obtain ⟨iI, hiI, hzI, hsI, hbI⟩ := info_parts infoStA
  have HN := Lib.hid hn
  have HR := Lib.hid hr
  have HWF := Lib.hid hwf
  have hm1 : Mod (fun _ => False) w (w.alloc (.map #[] 0)) := Mod.alloc _ _ _
  have hv1 : IMap Tryz.prog 3 3 (w.alloc (.map #[] 0)) w.heap.size (sumF []) := IMap.made w
  have HM1 := Lib.hid (And.intro hm1 hv1)
  have hmm := @run_makeMap Tryz.prog
  clear hn hr hwf hm1 hv1
  go_enter Tryz.func117, Tryz.ntmps117
  go_wp2_with fail
  obtain ⟨b, hbb⟩ : ∃ y, w.heap.size = y := ⟨_, rfl⟩
  rw [hbb]
  have HBB := Lib.hid hbb
  clear hbb hmm
  go_loopw [9] (fun i wr => ∃ k : Nat, k ≤ n ∧ i = .int .i64 k ∧ Mod (fun _ => False) w wr ∧ IMap Tryz.prog 3 3 wr b (sumF (xs.take k))) (fun i _ => n - (intOf i).toNat)
  case atStart => exact ⟨0, by omega, rfl, HM1.out.1, by rw [← HBB.out]; exact HM1.out.2⟩
  case round =>
    obtain ⟨k, hk, rfl, hm, hmap⟩ := hrel
    obtain ⟨wo, hwo⟩ : ∃ x : World, x = wr := ⟨_, rfl⟩
    subst hwo
    by_cases hlt : k < n
    · have z0 : decide ((k : Int) < (n : Int)) = true := by simp; omega
      have hkl : k < xs.length := by rw [HN.out]; exact hlt
      obtain ⟨eb, eo, hpl, e0, e1, e2⟩ := rd3s (HR.out.keep hm (fun _ _ e => e)) k hkl
      have hix := fun wx => run_indexS (P := Tryz.prog) wx 145 148 iI 3 Tryz.underlying145 hiI hsI a n c k hlt (HR.out.some_ (by omega))
      rw [hpl] at hix
      have hwx := HWF.out xs[k] (List.getElem_mem hkl)
      obtain ⟨x, hx⟩ : ∃ x, xs[k] = x := ⟨_, rfl⟩
      rw [hx] at e0 e1 e2 hwx
      obtain ⟨x1, x2, x3⟩ := x
      simp only at e0 e1 e2 hwx
      obtain ⟨wa, hwa⟩ : ∃ y, wo.alloc (.cells #[.int .i64 x1, .int .i64 x2, .int .i64 x3] 148) = y := ⟨_, rfl⟩
      have hma : Mod (fun _ => False) wo wa := by rw [← hwa]; exact Mod.alloc _ _ _
      obtain ⟨w2, hrun, hmap2, hm2⟩ := (hmap.keep hma (fun e => e)).store (t := 136) Tryz.underlying136 Tryz.underlying3 Tryz.underlying3 (xs.map (·.1)) (fun j hj => by
        have := sumF_mem _ j hj
        rw [List.map_take] at this
        exact List.mem_of_mem_take this) (by rw [List.length_map, HN.out]; unfold maxLen; omega) x1 x2 (i64_small _ hwx.1) (i64_small _ hwx.2)
      rw [← hwa] at hrun
      have hb9 := HBB.out
      have hstp : IMap Tryz.prog 3 3 w2 b (sumF (xs.take (k + 1))) ∧ Mod (fun _ => False) w w2 := by
        rw [List.take_succ_eq_append_getElem hkl, sumF_step, hx]
        exact ⟨hmap2, (hm.of2 hma).trans hm2 (fun _ _ e => e) (fun j hj e => by have e2 : j = b := e; omega)⟩
      have HS := Lib.hid hstp
      clear hx hpl hmap hmap2 hm hma hm2 hwa hstp hb9 hwx
      go_wp2_with fail
      go_roundw
      case rel => exact ⟨k + 1, hlt, by go_num, HS.out.2, HS.out.1⟩
      case measure => simp [intOf]; omega
    · have z0 : decide ((k : Int) < (n : Int)) = false := by simp; omega
      have hE := Lib.hid (And.intro hm hmap)
      clear hm hmap
      go_wp2_with fail
      go_ret
      refine ⟨b, rfl, by rw [HBB.out]; exact Nat.le_refl _, ?_, hE.out.1⟩
      have h2 := hE.out.2
      rw [List.take_of_length_le (by have := HN.out; omega)] at h2
      exact h2
end Go.Proofs.YtjjedebjbgpimaaGreat
