/- The reference's Server: May, drop, Out, by contract. -/
import Derived.Test.YtfdmjnhhgcidbaaSv2
import Derived.Test.YtfdmjnhhgcidbaaRowT
namespace Go.Proofs.Ytfdmjnhhgcidbaa
open Go.RowKit Mile
set_option maxRecDepth 100000
section
variable {w : World} {q M : Nat} {a : Option Addr} {n c : Nat} {gr : Nat → Int} {L : List SE}
set_option maxHeartbeats 4000000 in
theorem svmay_any {es : Nat → TbE} (h : SV w q M a n c gr L) (hL : SvR es gr L) (p cn : Int) : Calls Try.prog 32 #[.pointer (some ⟨q, 0, none⟩), .int .i64 p, .int .i64 cn] w fun e w' => e = .returned (.int .i64 (mayC M es gr p cn)) ∧ Mod (fun _ => False) w w' := by
  by_cases hp : 0 ≤ p ∧ p < 16
  case neg =>
    have hv : mayC M es gr p cn = 1 := by unfold mayC; rw [if_pos (by omega)]
    rw [hv]
    have HP := Lib.hid (rwithin_is w p 0 15 false (by by_cases h0 : 0 ≤ p <;> simp [h0]; omega))
    clear h hL hp hv
    go_enter Try.func32, Try.ntmps32
    go_wp2_with fail
    refine HP.out.mono ?_
    rintro e w' ⟨rfl, rfl⟩
    go_wp2_with fail
    go_ret
    exact ⟨rfl, Mod.refl _ _⟩
  case pos =>
  obtain ⟨ip, rfl⟩ := Int.eq_ofNat_of_zero_le hp.1
  have hi : ip < 16 := by omega
  have HP := Lib.hid (rwithin_is w (ip : Int) 0 15 true (by simp; omega))
  by_cases hcn : 1 ≤ cn ∧ cn ≤ 2147483648
  case neg =>
    have hv : mayC M es gr (ip : Int) cn = 1 := by unfold mayC; rw [if_pos (by omega)]
    rw [hv]
    have HC := Lib.hid (mayconn_is w cn false (by by_cases h0 : 1 ≤ cn <;> simp [h0]; omega))
    clear h hL hp hv hcn
    go_enter Try.func32, Try.ntmps32
    go_wp2_with fail
    refine HP.out.mono ?_
    rintro e w' ⟨rfl, rfl⟩
    go_wp2_with fail
    refine HC.out.mono ?_
    rintro e w' ⟨rfl, rfl⟩
    go_wp2_with fail
    go_ret
    exact ⟨rfl, Mod.refl _ _⟩
  case pos =>
  have HC := Lib.hid (mayconn_is w cn true (by simp; omega))
  obtain ⟨iE, hiE, hzE, hsE, hbE⟩ := info_parts Sv.infoE
  obtain ⟨iI, hiI, hzI, hsI, hbI⟩ := info_parts Tb.infoI
  have hv : mayC M es gr (ip : Int) cn = if cn ≤ gr ip then 6 else if M ≤ (liveN es 16).length ∧ es ip = none then 5 else 0 := by unfold mayC; rw [if_neg (by omega)]; rfl
  rw [hv]
  have hixG := fun wx => run_indexA16 (P := Try.prog) wx 104 3 iI Try.underlying104 hiI hsI q 12 ip hi
  have cg := h.cellG hi
  have cr := h.cellR
  have cm := h.cellM
  have HT := Lib.hid h
  have HL := Lib.hid hL
  have hlen := h.len
  have hlive := hL.len
  have hn16 : n ≤ 16 := by have := liveN_len es 16; omega
  obtain ⟨gv, hgv⟩ : ∃ y, gr ip = y := ⟨_, rfl⟩
  rw [hgv] at cg ⊢
  clear h hL hp hv hcn hgv
  by_cases h3 : cn ≤ gv
  case pos =>
    have y2 : decide (cn ≤ gv) = true := by simpa using h3
    rw [if_pos h3]
    clear h3 cr cm
    go_enter Try.func32, Try.ntmps32
    go_wp2_with fail
    refine HP.out.mono ?_
    rintro e w' ⟨rfl, rfl⟩
    go_wp2_with fail
    refine HC.out.mono ?_
    rintro e w' ⟨rfl, rfl⟩
    go_wp2_with fail
    go_ret
    exact ⟨rfl, Mod.refl _ _⟩
  case neg =>
  have y2 : decide (cn ≤ gv) = false := by simpa using h3
  rw [if_neg h3]
  obtain ⟨r, hr⟩ : ∃ y : Int, (if M ≤ (liveN es 16).length ∧ es ip = none then (5 : Int) else 0) = y := ⟨_, rfl⟩
  rw [hr]
  have HR := Lib.hid hr
  clear h3 hr
  go_enter Try.func32, Try.ntmps32
  go_wp2_with fail
  refine HP.out.mono ?_
  rintro e w' ⟨rfl, rfl⟩
  go_wp2_with fail
  refine HC.out.mono ?_
  rintro e w' ⟨rfl, rfl⟩
  go_wp2_with fail
  go_loopw [7] (fun iv wr => ∃ j : Nat, iv = .int .i64 j ∧ j ≤ n ∧ (∀ x ∈ L.take j, x.peer ≠ ip) ∧ w = wr) (fun iv _ => n - (intOf iv).toNat)
  case atStart => exact ⟨0, rfl, Nat.zero_le _, fun x hx => by simp at hx, rfl⟩
  case round =>
    obtain ⟨j, rfl, hj, hall, rfl⟩ := hrel
    have HALL := Lib.hid hall
    clear hall
    by_cases hjn : j < n
    case neg =>
      have y0 : decide ((j : Int) < (n : Int)) = false := by simp; omega
      have y1 : decide (j < n) = false := by simpa using hjn
      have hno : es ip = none := by
        cases he : es ip with
        | none => rfl
        | some y =>
          obtain ⟨x, hx, hp⟩ := (HL.out.mem hi).1 (by rw [he]; rfl)
          exact absurd hp (HALL.out x (by rw [List.take_of_length_le (by omega)]; exact hx))
      by_cases hM : M ≤ n
      case pos =>
        have y3 : decide ((M : Int) ≤ (n : Int)) = true := by simp; omega
        have y4 : decide (M ≤ n) = true := by simpa using hM
        have hrr : r = 5 := by rw [← HR.out, if_pos ⟨by omega, hno⟩]
        subst hrr
        clear hno
        go_wp2_with fail
        go_quiet (fail)
        go_wp2_with fail
        go_ret
        exact ⟨rfl, Mod.drewN _ _ _⟩
      case neg =>
        have y3 : decide ((M : Int) ≤ (n : Int)) = false := by simp; omega
        have y4 : decide (M ≤ n) = false := by simpa using hM
        have hrr : r = 0 := by rw [← HR.out, if_neg (fun x => hM (by omega))]
        subst hrr
        clear hno
        go_wp2_with fail
        go_quiet (fail)
        go_wp2_with fail
        go_ret
        exact ⟨rfl, Mod.drewN _ _ _⟩
    case pos =>
      have y0 : decide ((j : Int) < (n : Int)) = true := by simp; omega
      have y1 : decide (j < n) = true := by simpa using hjn
      have hjl : j < L.length := by omega
      obtain ⟨eb, eo, hpl, e0, e1, _, _⟩ := HT.out.at_ j hjl
      have hix := fun wx => run_indexS (P := Try.prog) wx 103 100 iE 1 Try.underlying103 hiE hsE a n c j hjn (HT.out.rd.some_ (by omega))
      rw [hpl] at hix
      obtain ⟨x, hx⟩ : ∃ x, L[j] = x := ⟨_, rfl⟩
      rw [hx] at e0 e1
      have HX := Lib.hid hx
      obtain ⟨xe, hxe⟩ : ∃ y, x.eb = y := ⟨_, rfl⟩
      obtain ⟨xp, hxp⟩ : ∃ y, x.peer = y := ⟨_, rfl⟩
      rw [hxe] at e0 e1
      rw [hxp] at e1
      have HXP := Lib.hid hxp
      clear hpl hx hxe hxp
      by_cases hpp : xp = ip
      case pos =>
        have y3 : ((xp : Int) == (ip : Int)) = true := by simp; omega
        have y4 : (xp == ip) = true := by simpa using hpp
        have hsome := (HL.out.mem hi).2 ⟨x, by rw [← HX.out]; exact List.getElem_mem hjl, by rw [HXP.out]; exact hpp⟩
        have hrr : r = 0 := by rw [← HR.out, if_neg (fun x => by rw [x.2] at hsome; cases hsome)]
        subst hrr
        clear hpp hsome
        go_wp2_with fail
        go_ret
        exact ⟨rfl, Mod.refl _ _⟩
      case neg =>
        have y3 : ((xp : Int) == (ip : Int)) = false := by simp; omega
        have y4 : (xp == ip) = false := by simpa using hpp
        have HPP := Lib.hid hpp
        clear hpp
        go_wp2_with fail
        go_roundw
        case rel => exact ⟨j + 1, by go_num, hjn, fun y hy => by
          rw [List.take_succ_eq_append_getElem hjl, List.mem_append, List.mem_singleton] at hy
          rcases hy with hy | rfl
          · exact HALL.out y hy
          · rw [HX.out, HXP.out]; exact HPP.out, trivial⟩
        case measure => simp [intOf]; omega
/-- The row set anew. -/
theorem SV.reset (h : SV w q M a n c gr L) {base : Nat} {a' : Option Addr} {n' c' : Nat} {L' : List SE} (hl : L'.length = n') (ho : w.ownsRow base 100 1 (.slice a' n' c') n' (L'.map seV)) (hb : q < base) (hE : ∀ x ∈ L', SEin w q x) :
    SV (w.setCell ⟨q, 11, none⟩ (.slice a' n' c')) q M a' n' c' gr L' ∧ Mod (fun k => k = q) w (w.setCell ⟨q, 11, none⟩ (.slice a' n' c')) := by
  have hset : Mod (fun k => k = q) w (w.setCell ⟨q, 11, none⟩ (.slice a' n' c')) := Mod.setCell _ _ _ rfl
  obtain ⟨g1, g2, g3, xv, hblk⟩ := h.blk
  have hb2 := hblk.set 11 (.slice a' n' c')
  rw [svC_setR] at hb2
  exact ⟨⟨h.m1, h.m16, hl, ⟨g1, g2, g3, xv, hb2⟩, (Rd.ofOwn ho).keep hset (fun k hk e => by have := (ho.lt k hk).1; omega), fun k hk e => by have := (ho.lt k hk).1; omega, fun x hx => (hE x hx).keep hset (fun _ _ e => e)⟩, hset⟩
set_option maxHeartbeats 8000000 in
theorem svdrop_any (h : SV w q M a n c gr L) (hn16 : n ≤ 16) (p : Int) : Calls Try.prog 76 #[.pointer (some ⟨q, 0, none⟩), .int .i64 p] w fun e w' => e = .returned (.tuple #[]) ∧ ∃ a' n' c', SV w' q M a' n' c' gr (dropS L p) ∧ Mod (fun k => k = q) w w' := by
  obtain ⟨iE, hiE, hzE, hsE, hbE⟩ := info_parts Sv.infoE
  have HT := Lib.hid h
  have hlen := h.len
  have hql := h.lt
  clear h
  obtain ⟨B0, hB0⟩ : ∃ y, w.heap.size = y := ⟨_, rfl⟩
  rw [hB0] at hql
  have HB0 := Lib.hid hB0
  clear hB0
  go_enter Try.func76, Try.ntmps76
  go_wp2_with fail
  go_loopw [4, 5] (fun v iv wr => ∃ (j k : Nat) (a2 : Option Addr) (c2 : Nat), j ≤ n ∧ iv = .int .i64 j ∧ v = .slice a2 k c2 ∧ (dropS (L.take j) p).length = k ∧ World.ownsRow wr B0 100 1 (.slice a2 k c2) k ((dropS (L.take j) p).map seV) ∧ Mod (fun _ => False) w wr) (fun _ iv _ => n - (intOf iv).toNat)
  case atStart => exact ⟨0, 0, none, 0, by omega, rfl, rfl, rfl, World.ownsRow_nil _ _ _ _, Mod.refl _ _⟩
  case round =>
    obtain ⟨j, k, a2, c2, hj, rfl, rfl, hk, ho, hmr⟩ := hrel
    obtain ⟨wo, hwo⟩ : ∃ x : World, x = wr := ⟨_, rfl⟩
    subst hwo
    have HO := Lib.hid ho
    have HMR := Lib.hid hmr
    have HK := Lib.hid hk
    have HTO := Lib.hid (HT.out.later hmr)
    have cr := HTO.out.cellR
    have hkb : k ≤ 16 := by
      have h1 : (dropS (L.take j) p).length ≤ (L.take j).length := List.length_filter_le _ _
      have h2 : (L.take j).length ≤ j := List.length_take_le _ _
      omega
    clear ho hmr hk
    by_cases hlt : j < n
    case neg =>
      have z0 : decide ((j : Int) < (n : Int)) = false := by simp; omega
      have z1 : decide (j < n) = false := by simpa using hlt
      obtain rfl : j = n := by omega
      have hT : L.take j = L := List.take_of_length_le (by omega)
      have hk := HK.out
      have ho := HO.out
      rw [hT] at hk ho
      obtain ⟨hsv, hset⟩ := HTO.out.reset hk ho hql (fun x hx => HTO.out.ents x (List.mem_filter.1 hx).1)
      have HSV := Lib.hid hsv
      have HSET := Lib.hid hset
      have f11 := HTO.out.free 11
      have lq := HTO.out.lt
      clear hT hk ho hsv hset
      go_wp2_with fail
      go_end0
      exact ⟨rfl, a2, k, c2, HSV.out, HMR.out.trans HSET.out (fun _ _ e => e.elim) (fun _ _ e => e)⟩
    case pos =>
      have z0 : decide ((j : Int) < (n : Int)) = true := by simp; omega
      have z1 : decide (j < n) = true := by simpa using hlt
      have hjl : j < L.length := by omega
      obtain ⟨eb, eo, hpl, e0, e1, _, _⟩ := HTO.out.at_ j hjl
      have hix := fun wx => run_indexS (P := Try.prog) wx 103 100 iE 1 Try.underlying103 hiE hsE a n c j hlt (HTO.out.rd.some_ (by omega))
      rw [hpl] at hix
      obtain ⟨x, hx⟩ : ∃ x, L[j] = x := ⟨_, rfl⟩
      rw [hx] at e0 e1
      have HST : Hid (dropS (L.take (j + 1)) p = dropS (L.take j) p ++ if (x.peer : Int) = p then [] else [x]) := Lib.hid (by
        rw [List.take_succ_eq_append_getElem hjl, hx]
        unfold dropS
        rw [List.filter_append]
        congr 1
        by_cases e : (x.peer : Int) = p <;> simp [e])
      obtain ⟨xe, hxe⟩ : ∃ y, x.eb = y := ⟨_, rfl⟩
      obtain ⟨xp, hxp⟩ : ∃ y : Int, (x.peer : Int) = y := ⟨_, rfl⟩
      have HSE : Hid (seV x = .pointer (some ⟨xe, 0, none⟩)) := Lib.hid (by unfold seV; rw [hxe])
      rw [hxe] at e0 e1
      rw [hxp] at e1 HST
      clear hpl hx hxe hxp
      by_cases hpp : xp = p
      case pos =>
        have y2 : (xp != p) = false := by simpa using hpp
        rw [if_pos hpp, List.append_nil] at HST
        clear hpp
        go_wp2_with fail
        go_roundw
        case rel => exact ⟨j + 1, k, a2, c2, hlt, by go_num, rfl, by rw [HST.out]; exact HK.out, by rw [HST.out]; exact HO.out, HMR.out⟩
        case measure => simp [intOf]; omega
      case neg =>
        have y2 : (xp != p) = true := by simpa using hpp
        rw [if_neg hpp] at HST
        clear hpp
        go_wp2_with (at_builtin; refine wpList_append_any rfl (.tmp 27) (.tmp 35) 103 rfl 100 iE (.pointer none) 1 8 Try.underlying103 hiE hzE hsE hbE rfl (by decide) _ k _ rfl (World.ownsRow.alloc (Own.base HO.out (Nat.zero_le _)) _) _ 1 [.pointer (some ⟨xe, 0, none⟩)] rfl (Rd.lit 100 [.pointer (some ⟨xe, 0, none⟩)] (0, 0) wo.heap.size 1 rfl rfl (by decide)) (by intro u hu; simp at hu; subst hu; rfl) (by unfold maxLen; omega) (by omega) ?_; intro v4 w4 hap)
        obtain ⟨a4, c4, rfl⟩ := hap.form
        have hsz := HMR.out.size
        have ho4 := hap.own
        have lo4 := hap.low (B := B0) (by have := HB0.out; simp; omega) (fun k hk => (HO.out.lt k hk).1)
        have hm4 := (HMR.out.thenAlloc (.cells #[.pointer (some ⟨xe, 0, none⟩)] 100)).old hap.mod (fun i hi => by have h1 := (HO.out.lt i hi).1; have h2 := HB0.out; omega)
        have HO5 := Lib.hid (Own.rebase ho4 lo4)
        have HM4 := Lib.hid hm4
        clear hap ho4 lo4 hm4 hsz
        go_wp2_with fail
        go_roundw
        case rel => exact ⟨j + 1, k + 1, a4, c4, hlt, by go_num, rfl, by rw [HST.out, List.length_append, HK.out]; rfl, by rw [HST.out, List.map_append]; simp only [List.map_cons, List.map_nil, HSE.out]; exact HO5.out, HM4.out⟩
        case measure => simp [intOf]; omega
theorem svout_any (h : SV w q M a n c gr L) (hn16 : n ≤ 16) (p : Int) : Calls Try.prog 39 #[.pointer (some ⟨q, 0, none⟩), .int .i64 p] w fun e w' => e = .returned (.tuple #[]) ∧ ∃ a' n' c', SV w' q M a' n' c' gr (dropS L p) ∧ Mod (fun k => k = q) w w' := by
  have HD := Lib.hid (svdrop_any h hn16 p)
  clear h
  go_enter Try.func39, Try.ntmps39
  go_wp2_with fail
  refine HD.out.mono ?_
  rintro e w' ⟨rfl, a', n', c', hs, hm⟩
  have HS := Lib.hid hs
  have HM := Lib.hid hm
  clear hs hm
  go_wp2_with fail
  go_end0
  exact ⟨rfl, a', n', c', HS.out, HM.out⟩
end
end Go.Proofs.Ytfdmjnhhgcidbaa
