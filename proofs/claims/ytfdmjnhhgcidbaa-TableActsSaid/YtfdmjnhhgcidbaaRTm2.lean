/- The reference's Timer: Stop by contract. -/
import Derived.Test.YtfdmjnhhgcidbaaRTm1
namespace Go.Proofs.Ytfdmjnhhgcidbaa
open Go.RowKit Mile Go.Maps
set_option maxRecDepth 100000
theorem stopW_snoc (L : List Wt) (e : Wt) (id : Int) : stopW (L ++ [e]) id = stopW L id ++ if e.id = id then [] else [e] := by
  unfold stopW
  rw [List.filter_append]
  by_cases h : e.id = id
  · rw [List.filter_cons_of_neg (by simp [h]), if_pos h]; rfl
  · rw [List.filter_cons_of_pos (by simp [h]), if_neg h]; rfl
theorem RT.put {w : World} {q : Nat} {a : Option Addr} {n c B M R : Nat} {L L' : List Wt} (h : RT w q a n c B M R L) {a' : Option Addr} {n' c' : Nat} (hl : L'.length = n') {base : Nat} (hq : q < base) (hr : w.ownsRow base 192 3 (.slice a' n' c') n' (L'.flatMap c3W)) :
    RT (w.setCell ⟨q, 3, none⟩ (.slice a' n' c')) q a' n' c' B M R L' :=
  ⟨h.b1, h.bm, h.mx, h.rx, hl, h.blk.set 3 _, (Rd.ofOwn hr).keep (Mod.setCell (F := fun k => k = q) w ⟨q, 3, none⟩ _ rfl) (fun k hk e => by have := (hr.lt k hk).1; omega), fun k hk e => by have := (hr.lt k hk).1; omega⟩
set_option maxHeartbeats 4000000 in
theorem rtstop_any (w : World) (q : Nat) (a : Option Addr) (n c B M R : Nat) (L : List Wt) (h : RT w q a n c B M R L) (hL : n ≤ 1000000) (id : Int) :
    Calls Try.prog 83 #[.pointer (some ⟨q, 0, none⟩), .int .i64 id] w fun e w' => e = .returned (.tuple #[]) ∧ ∃ a' n' c', RT w' q a' n' c' B M R (stopW L id) ∧ (∀ k, (Value.slice a' n' c').ownBlock = some k → w.heap.size ≤ k) ∧ Mod (fun k => k = q) w w' := by
  obtain ⟨iW, hiW, hzW, hsW, hbW⟩ := info_parts RT.infoW
  have HT := Lib.hid h
  have hqlt := h.blk.lt
  have hlen := h.len
  clear h
  go_enter Try.func83, Try.ntmps83
  go_wp2_with fail
  go_loopw [4, 5] (fun v iv wr => ∃ (j m : Nat) (a2 : Option Addr) (c2 : Nat), j ≤ n ∧ iv = .int .i64 j ∧ v = .slice a2 m c2 ∧ (stopW (L.take j) id).length = m ∧ World.ownsRow wr w.heap.size 192 3 (.slice a2 m c2) m ((stopW (L.take j) id).flatMap c3W) ∧ Mod (fun _ => False) w wr) (fun _ iv _ => n - (intOf iv).toNat)
  case atStart => exact ⟨0, 0, none, 0, by omega, rfl, rfl, rfl, World.ownsRow_nil _ _ _ _, Mod.refl _ _⟩
  case round =>
    obtain ⟨j, m, a2, c2, hj, rfl, rfl, hm, ho, hmr⟩ := hrel
    obtain ⟨wo, hwo⟩ : ∃ x : World, x = wr := ⟨_, rfl⟩
    subst hwo
    have HO := Lib.hid ho
    have HMR := Lib.hid hmr
    have HMM := Lib.hid hm
    have HTO := Lib.hid (HT.out.keep hmr (fun e => e) (fun _ _ e => e.elim))
    have c3 := HTO.out.blk.cell 3 rfl
    have hm6 : m ≤ 1000000 := by have h1 := (stopW_sub (L.take j) id).length_le; have h2 : (L.take j).length ≤ j := List.length_take_le _ _; omega
    clear ho hmr hm
    by_cases hlt : j < n
    case neg =>
      have z0 : decide ((j : Int) < (n : Int)) = false := by simp; omega
      have z1 : decide (j < n) = false := by simpa using hlt
      obtain rfl : j = n := by omega
      have HLT : Hid (L.take j = L) := Lib.hid (by rw [← hlen]; exact List.take_length)
      have f3 := HTO.out.blk.free 3
      go_wp2_with fail
      go_end0
      refine ⟨rfl, a2, m, c2, HTO.out.put (by have := HMM.out; rwa [HLT.out] at this) hqlt (by have := HO.out; rwa [HLT.out] at this), fun k hk => (HO.out.lt k hk).1, HMR.out.trans (Mod.setCell (F := fun k => k = q) _ ⟨q, 3, none⟩ _ rfl) (fun _ _ e => e.elim) (fun _ _ e => e)⟩
    case pos =>
      have z0 : decide ((j : Int) < (n : Int)) = true := by simp; omega
      have z1 : decide (j < n) = true := by simpa using hlt
      have hjl : j < L.length := by omega
      obtain ⟨eb, eo, hpl, e0, e1, e2⟩ := rd3w HTO.out.rd j hjl
      have hix := fun wx => run_indexS (P := Try.prog) wx 166 192 iW 3 Try.underlying166 hiW hsW a n c j hlt (HTO.out.rd.some_ (by omega))
      rw [hpl] at hix
      have hst := stopW_snoc (L.take j) L[j] id
      rw [← List.take_succ_eq_append_getElem hjl] at hst
      obtain ⟨e, he⟩ : ∃ e, L[j] = e := ⟨_, rfl⟩
      rw [he] at e0 e1 e2 hst
      obtain ⟨x0, hx0⟩ : ∃ x, e.id = x := ⟨_, rfl⟩
      obtain ⟨x1, hx1⟩ : ∃ x, e.due = x := ⟨_, rfl⟩
      obtain ⟨x2, hx2⟩ : ∃ x, (e.n : Int) = x := ⟨_, rfl⟩
      rw [hx0] at e0 hst
      rw [hx1] at e1
      rw [hx2] at e2
      have HST := Lib.hid hst
      have HCE : Hid (c3W e = [.int .i64 x0, .int .i64 x1, .int .i64 x2]) := Lib.hid (by unfold c3W; rw [hx0, hx1, hx2])
      clear hst hx0 hx1 hx2 he hpl
      by_cases hid : x0 = id
      case pos =>
        have z2 : (x0 != id) = false := by simpa using hid
        have z3 : decide (x0 = id) = true := by simpa using hid
        have z4 : (x0 == id) = true := by simpa using hid
        have HS2 : Hid (stopW (L.take (j + 1)) id = stopW (L.take j) id) := Lib.hid (by rw [HST.out, if_pos hid, List.append_nil])
        clear hid
        go_wp2_with fail
        go_roundw
        case rel => exact ⟨j + 1, m, a2, c2, hlt, by go_num, rfl, by rw [HS2.out]; exact HMM.out, by rw [HS2.out]; exact HO.out, HMR.out⟩
        case measure => simp [intOf]; omega
      case neg =>
        have z2 : (x0 != id) = true := by simpa using hid
        have z3 : decide (x0 = id) = false := by simpa using hid
        have z4 : (x0 == id) = false := by simpa using hid
        have HS2 : Hid (stopW (L.take (j + 1)) id = stopW (L.take j) id ++ [e]) := Lib.hid (by rw [HST.out, if_neg hid])
        clear hid
        go_wp2_with (at_builtin; refine wpList_append_any rfl (.tmp 25) (.tmp 33) 166 rfl 192 iW (.agg #[.int .i64 0, .int .i64 0, .int .i64 0]) 3 24 Try.underlying166 hiW hzW hsW hbW rfl (by decide) _ m _ rfl (World.ownsRow.alloc (Own.base HO.out (Nat.zero_le _)) _) _ 1 [.int .i64 x0, .int .i64 x1, .int .i64 x2] rfl (Rd.litN 192 3 [.int .i64 x0, .int .i64 x1, .int .i64 x2] (0, 0) wo.heap.size 1 rfl rfl (by decide)) (by intro u hu; simp at hu; rcases hu with rfl | rfl | rfl <;> rfl) (by unfold maxLen; omega) (by omega) ?_; intro v4 w4 hap)
        obtain ⟨a4, c4, rfl⟩ := hap.form
        have hsz := HMR.out.size
        have ho4 := hap.own
        have lo4 := hap.low (B := w.heap.size) (by simp; omega) (fun k hk => (HO.out.lt k hk).1)
        have hm4 := (HMR.out.thenAlloc (.cells #[.int .i64 x0, .int .i64 x1, .int .i64 x2] 192)).old hap.mod (fun i hi => (HO.out.lt i hi).1)
        have HO5 := Lib.hid (Own.rebase ho4 lo4)
        have HM4 := Lib.hid hm4
        clear hap ho4 lo4 hm4 hsz
        go_wp2_with fail
        go_roundw
        case rel => exact ⟨j + 1, m + 1, a4, c4, hlt, by go_num, rfl, by rw [HS2.out, List.length_append, HMM.out]; rfl, by rw [HS2.out, List.flatMap_append, List.flatMap_cons, List.flatMap_nil, List.append_nil, HCE.out]; exact HO5.out, HM4.out⟩
        case measure => simp [intOf]; omega
end Go.Proofs.Ytfdmjnhhgcidbaa
