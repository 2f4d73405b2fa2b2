/- The reference's Server: MayConn, Get, May, Is, Live, by contract. -/
import Derived.Test.YtfdmjnhhgcidbaaSvP
import Derived.Deep.QuietTactic
import Derived.BigQuiet
namespace Go.Proofs.Ytfdmjnhhgcidbaa
open Go.RowKit Mile
set_option maxRecDepth 100000
theorem mayconn_is (w : World) (v : Int) (r : Bool) (h : (decide (1 ≤ v) && decide (v ≤ 2147483648)) = r) : Calls Try.prog 52 #[.int .i64 v] w fun e w' => e = .returned (.bool r) ∧ w = w' := by
  have HW := Lib.hid (rwithin_is w v 1 2147483648 r h)
  clear h
  go_enter Try.func52, Try.ntmps52
  go_wp2_with fail
  refine HW.out.mono ?_
  rintro e w' ⟨rfl, rfl⟩
  go_wp2_with fail
  go_ret
  exact ⟨rfl, rfl⟩
theorem Sv.infoE : (Try.prog.info? 100).map (fun i => (i.zero, i.size, i.bytes)) = some (some (.pointer none), 1, 8) := by kernel_rfl
section
variable {w : World} {q M : Nat} {a : Option Addr} {n c : Nat} {gr : Nat → Int} {L : List SE}
set_option maxHeartbeats 4000000 in
theorem svis_any (h : SV w q M a n c gr L) (hn16 : n ≤ 16) (p : Int) (r : Bool) (hr : r = true ↔ ∃ x ∈ L, (x.peer : Int) = p) : Calls Try.prog 37 #[.pointer (some ⟨q, 0, none⟩), .int .i64 p] w fun e w' => e = .returned (.bool r) ∧ w = w' := by
  obtain ⟨iE, hiE, hzE, hsE, hbE⟩ := info_parts Sv.infoE
  have HT := Lib.hid h
  have HR := Lib.hid hr
  have hlen := h.len
  have cr := h.cellR
  clear h hr
  go_enter Try.func37, Try.ntmps37
  go_wp2_with fail
  go_loopw [5] (fun iv wr => ∃ j : Nat, iv = .int .i64 j ∧ j ≤ n ∧ (∀ x ∈ L.take j, (x.peer : Int) ≠ p) ∧ w = wr) (fun iv _ => n - (intOf iv).toNat)
  case atStart => exact ⟨0, rfl, Nat.zero_le _, fun x hx => by simp at hx, rfl⟩
  case round =>
    obtain ⟨j, rfl, hj, hall, rfl⟩ := hrel
    have HALL := Lib.hid hall
    clear hall
    by_cases hjn : j < n
    case neg =>
      have y0 : decide ((j : Int) < (n : Int)) = false := by simp; omega
      have y1 : decide (j < n) = false := by simpa using hjn
      have hrf : r = false := by
        cases r with
        | false => rfl
        | true =>
          obtain ⟨x, hx, hp⟩ := HR.out.1 rfl
          exact absurd hp (HALL.out x (by rw [List.take_of_length_le (by omega)]; exact hx))
      subst hrf
      go_wp2_with fail
      go_ret
      exact ⟨rfl, rfl⟩
    case pos =>
      have y0 : decide ((j : Int) < (n : Int)) = true := by simp; omega
      have y1 : decide (j < n) = true := by simpa using hjn
      have hjl : j < L.length := by omega
      obtain ⟨eb, eo, hpl, e0, e1, _, _⟩ := HT.out.at_ j hjl
      have hix := fun wx => run_indexS (P := Try.prog) wx 103 100 iE 1 Try.underlying103 hiE hsE a n c j hjn (HT.out.rd.some_ (by omega))
      rw [hpl] at hix
      obtain ⟨x, hx⟩ : ∃ x, L[j] = x := ⟨_, rfl⟩
      rw [hx] at e0 e1
      have HX := Lib.hid hx
      obtain ⟨xe, hxe⟩ : ∃ y, x.eb = y := ⟨_, rfl⟩
      obtain ⟨xp, hxp⟩ : ∃ y, x.peer = y := ⟨_, rfl⟩
      rw [hxe] at e0 e1
      rw [hxp] at e1
      have HXP := Lib.hid hxp
      clear hpl hx hxe hxp
      by_cases hpp : (xp : Int) = p
      case pos =>
        have y2 : ((xp : Int) == p) = true := by simpa using hpp
        have hrt : r = true := HR.out.2 ⟨x, by rw [← HX.out]; exact List.getElem_mem hjl, by rw [HXP.out]; exact hpp⟩
        subst hrt
        clear hpp
        go_wp2_with fail
        go_ret
        exact ⟨rfl, rfl⟩
      case neg =>
        have y2 : ((xp : Int) == p) = false := by simpa using hpp
        have HP := Lib.hid hpp
        clear hpp
        go_wp2_with fail
        go_roundw
        case rel => exact ⟨j + 1, by go_num, hjn, fun y hy => by
          rw [List.take_succ_eq_append_getElem hjl, List.mem_append, List.mem_singleton] at hy
          rcases hy with hy | rfl
          · exact HALL.out y hy
          · rw [HX.out, HXP.out]; exact HP.out, trivial⟩
        case measure => simp [intOf]; omega
set_option maxHeartbeats 4000000 in
theorem svget_any (h : SV w q M a n c gr L) (hn16 : n ≤ 16) (p cn : Int) (r : Value) (hr : (∀ x ∈ L, ¬ ((x.peer : Int) = p ∧ x.conn = cn)) → r = .pointer none) (hs : ∀ x ∈ L, ((x.peer : Int) = p ∧ x.conn = cn) → r = .pointer (some ⟨x.eb, 0, none⟩)) : Calls Try.prog 41 #[.pointer (some ⟨q, 0, none⟩), .int .i64 p, .int .i64 cn] w fun e w' => e = .returned r ∧ w = w' := by
  obtain ⟨iE, hiE, hzE, hsE, hbE⟩ := info_parts Sv.infoE
  have HT := Lib.hid h
  have HR := Lib.hid hr
  have HS := Lib.hid hs
  have hlen := h.len
  have cr := h.cellR
  clear h hr hs
  go_enter Try.func41, Try.ntmps41
  go_wp2_with fail
  go_loopw [7] (fun iv wr => ∃ j : Nat, iv = .int .i64 j ∧ j ≤ n ∧ (∀ x ∈ L.take j, ¬ ((x.peer : Int) = p ∧ x.conn = cn)) ∧ w = wr) (fun iv _ => n - (intOf iv).toNat)
  case atStart => exact ⟨0, rfl, Nat.zero_le _, fun x hx => by simp at hx, rfl⟩
  case round =>
    obtain ⟨j, rfl, hj, hall, rfl⟩ := hrel
    have HALL := Lib.hid hall
    clear hall
    by_cases hjn : j < n
    case neg =>
      have y0 : decide ((j : Int) < (n : Int)) = false := by simp; omega
      have y1 : decide (j < n) = false := by simpa using hjn
      have hrf : r = .pointer none := HR.out (fun x hx => HALL.out x (by rw [List.take_of_length_le (by omega)]; exact hx))
      subst hrf
      go_wp2_with fail
      go_ret
      exact ⟨rfl, rfl⟩
    case pos =>
      have y0 : decide ((j : Int) < (n : Int)) = true := by simp; omega
      have y1 : decide (j < n) = true := by simpa using hjn
      have hjl : j < L.length := by omega
      obtain ⟨eb, eo, hpl, e0, e1, e2, e3⟩ := HT.out.at_ j hjl
      have hix := fun wx => run_indexS (P := Try.prog) wx 103 100 iE 1 Try.underlying103 hiE hsE a n c j hjn (HT.out.rd.some_ (by omega))
      rw [hpl] at hix
      obtain ⟨x, hx⟩ : ∃ x, L[j] = x := ⟨_, rfl⟩
      rw [hx] at e0 e1 e2 e3
      have HX := Lib.hid hx
      obtain ⟨xe, hxe⟩ : ∃ y, x.eb = y := ⟨_, rfl⟩
      obtain ⟨xp, hxp⟩ : ∃ y, x.peer = y := ⟨_, rfl⟩
      obtain ⟨xc, hxc⟩ : ∃ y, x.cb = y := ⟨_, rfl⟩
      obtain ⟨xn, hxn⟩ : ∃ y, x.conn = y := ⟨_, rfl⟩
      rw [hxe] at e0 e1 e2
      rw [hxp] at e1
      rw [hxc] at e2 e3
      rw [hxn] at e3
      have HXP := Lib.hid hxp
      have HXE := Lib.hid hxe
      have HXN := Lib.hid hxn
      clear hpl hx hxe hxp hxc hxn
      have hnext : ∀ P : Prop, ¬ ((xp : Int) = p ∧ xn = cn) → ∀ y ∈ L.take (j + 1), ¬ ((y.peer : Int) = p ∧ y.conn = cn) := fun _ hno y hy => by
        rw [List.take_succ_eq_append_getElem hjl, List.mem_append, List.mem_singleton] at hy
        rcases hy with hy | rfl
        · exact HALL.out y hy
        · rw [HX.out, HXP.out, HXN.out]; exact hno
      have HNX := Lib.hid (hnext True)
      clear hnext
      by_cases hpp : (xp : Int) = p
      case neg =>
        have y2 : ((xp : Int) == p) = false := by simpa using hpp
        have HP := Lib.hid (HNX.out (fun h => hpp h.1))
        clear hpp
        go_wp2_with fail
        go_roundw
        case rel => exact ⟨j + 1, by go_num, hjn, HP.out, trivial⟩
        case measure => simp [intOf]; omega
      case pos =>
        have y2 : ((xp : Int) == p) = true := by simpa using hpp
        by_cases hcc : xn = cn
        case neg =>
          have y3 : (xn == cn) = false := by simpa using hcc
          have HP := Lib.hid (HNX.out (fun h => hcc h.2))
          clear hpp hcc
          go_wp2_with fail
          go_roundw
          case rel => exact ⟨j + 1, by go_num, hjn, HP.out, trivial⟩
          case measure => simp [intOf]; omega
        case pos =>
          have y3 : (xn == cn) = true := by simpa using hcc
          have hrt := HS.out x (by rw [← HX.out]; exact List.getElem_mem hjl) ⟨by rw [HXP.out]; exact hpp, by rw [HXN.out]; exact hcc⟩
          rw [HXE.out] at hrt
          subst hrt
          clear hpp hcc
          go_wp2_with fail
          go_ret
          exact ⟨rfl, rfl⟩
set_option maxHeartbeats 4000000 in
theorem svlive_any (h : SV w q M a n c gr L) (hn16 : n ≤ 16) : Calls Try.prog 46 #[.pointer (some ⟨q, 0, none⟩)] w fun e w' => ∃ a' c', e = .returned (.slice a' n c') ∧ Rd w' 1 (.slice a' n c') n ((L.map fun x => (x.peer : Int)).map (Value.int .i64)) ∧ Mod (fun _ => False) w w' := by
  obtain ⟨iE, hiE, hzE, hsE, hbE⟩ := info_parts Sv.infoE
  obtain ⟨iI, hiI, hzI, hsI, hbI⟩ := info_parts Tb.infoI
  have HT := Lib.hid h
  have hlen := h.len
  clear h
  go_enter Try.func46, Try.ntmps46
  go_wp2_with fail
  go_loopw [3, 4] (fun v iv wr => ∃ (j : Nat) (a2 : Option Addr) (c2 : Nat), j ≤ n ∧ iv = .int .i64 j ∧ v = .slice a2 j c2 ∧ World.ownsRow wr w.heap.size 3 1 (.slice a2 j c2) j (((L.take j).map (fun x => (x.peer : Int))).map (Value.int .i64)) ∧ Mod (fun _ => False) w wr) (fun _ iv _ => n - (intOf iv).toNat)
  case atStart => exact ⟨0, none, 0, by omega, rfl, rfl, World.ownsRow_nil _ _ _ _, Mod.refl _ _⟩
  case round =>
    obtain ⟨j, a2, c2, hj, rfl, rfl, ho, hmr⟩ := hrel
    obtain ⟨wo, hwo⟩ : ∃ x : World, x = wr := ⟨_, rfl⟩
    subst hwo
    have HO := Lib.hid ho
    have HMR := Lib.hid hmr
    have HTO := Lib.hid (HT.out.later hmr)
    have cr := HTO.out.cellR
    clear ho hmr
    by_cases hlt : j < n
    case neg =>
      have z0 : decide ((j : Int) < (n : Int)) = false := by simp; omega
      have z1 : decide (j < n) = false := by simpa using hlt
      obtain rfl : j = n := by omega
      have HLT : Hid (L.take j = L) := Lib.hid (List.take_of_length_le (by omega))
      go_wp2_with fail
      go_ret
      exact ⟨a2, c2, rfl, by have h := Rd.ofOwn HO.out; rwa [HLT.out] at h, HMR.out⟩
    case pos =>
      have z0 : decide ((j : Int) < (n : Int)) = true := by simp; omega
      have z1 : decide (j < n) = true := by simpa using hlt
      have hjl : j < L.length := by omega
      obtain ⟨eb, eo, hpl, e0, e1, _, _⟩ := HTO.out.at_ j hjl
      have hix := fun wx => run_indexS (P := Try.prog) wx 103 100 iE 1 Try.underlying103 hiE hsE a n c j hlt (HTO.out.rd.some_ (by omega))
      rw [hpl] at hix
      obtain ⟨x, hx⟩ : ∃ x, L[j] = x := ⟨_, rfl⟩
      rw [hx] at e0 e1
      obtain ⟨xe, hxe⟩ : ∃ y, x.eb = y := ⟨_, rfl⟩
      obtain ⟨xp, hxp⟩ : ∃ y : Int, (x.peer : Int) = y := ⟨_, rfl⟩
      rw [hxe] at e0 e1
      rw [hxp] at e1
      have HST : Hid ((L.take (j + 1)).map (fun x => (x.peer : Int)) = (L.take j).map (fun x => (x.peer : Int)) ++ [xp]) := Lib.hid (by rw [List.take_succ_eq_append_getElem hjl, List.map_append, hx, ← hxp]; rfl)
      clear hpl hx hxe hxp
      go_wp2_with (at_builtin; refine wpList_append_any rfl (.tmp 14) (.tmp 25) 70 rfl 3 iI (.int .i64 0) 1 8 Try.underlying70 hiI hzI hsI hbI rfl (by decide) _ j _ rfl (World.ownsRow.alloc (Own.base HO.out (Nat.zero_le _)) _) _ 1 [.int .i64 xp] rfl (Rd.lit 3 [.int .i64 xp] (0, 0) wo.heap.size 1 rfl rfl (by decide)) (by intro u hu; simp at hu; subst hu; rfl) (by unfold maxLen; omega) (by omega) ?_; intro v4 w4 hap)
      obtain ⟨a4, c4, rfl⟩ := hap.form
      have hsz := HMR.out.size
      have ho4 := hap.own
      have lo4 := hap.low (B := w.heap.size) (by simp; omega) (fun k hk => (HO.out.lt k hk).1)
      have hm4 := (HMR.out.thenAlloc (.cells #[.int .i64 xp] 3)).old hap.mod (fun i hi => (HO.out.lt i hi).1)
      have HO5 := Lib.hid (Own.rebase ho4 lo4)
      have HM4 := Lib.hid hm4
      clear hap ho4 lo4 hm4 hsz
      go_wp2_with fail
      go_roundw
      case rel => exact ⟨j + 1, a4, c4, hlt, by go_num, rfl, by rw [HST.out, List.map_append]; exact HO5.out, HM4.out⟩
      case measure => simp [intOf]; omega
end
end Go.Proofs.Ytfdmjnhhgcidbaa
