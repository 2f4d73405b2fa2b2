/- The reference's NewTaker, Held; milepostalike.Rows, by contract. -/
import Derived.Test.YtffcoajodpfngaaRKP
import Derived.Deep.QuietTactic
import Derived.BigQuiet
namespace Go.Proofs.Ytffcoajodpfngaa
open Go.RowKit Mile
set_option maxRecDepth 100000
theorem RK.infoU : (Try.prog.info? 57).map (fun i => (i.zero, i.size, i.bytes)) = some (some (.agg #[.int .i64 0, .slice none 0 0]), 2, 32) := by kernel_rfl
theorem RK.info8 : (Try.prog.info? 5).map (fun i => (i.zero, i.size, i.bytes)) = some (some (.int .u8 0), 1, 1) := by kernel_rfl
theorem kwithin_is (w : World) (n a b : Int) (r : Bool) (h : (decide (a ≤ n) && decide (n ≤ b)) = r) : Calls Try.prog 17 #[.int .i64 n, .int .i64 a, .int .i64 b] w fun e w' => e = .returned (.bool r) ∧ w = w' := by
  by_cases h1 : a ≤ n
  · have z0 : decide (a ≤ n) = true := by simpa using h1
    rw [z0, Bool.true_and] at h
    clear h1
    go_enter Try.func17, Try.ntmps17
    go_wp2_with fail
    go_ret
    exact ⟨rfl, rfl⟩
  · have z0 : decide (a ≤ n) = false := by simpa using h1
    rw [z0, Bool.false_and] at h
    subst h
    clear h1
    go_enter Try.func17, Try.ntmps17
    go_wp2_with fail
    go_ret
    exact ⟨rfl, rfl⟩
theorem rknew_no (w : World) (v : Int) (h : ¬ (1 ≤ v ∧ v ≤ 16)) : Calls Try.prog 8 #[.int .i64 v] w fun e w' => e = .returned (.pointer none) ∧ w = w' := by
  have H1 : Hid ((decide (1 ≤ v) && decide (v ≤ 16)) = false) := Lib.hid (by by_cases h1 : 1 ≤ v <;> simp [h1]; omega)
  clear h
  go_enter Try.func8, Try.ntmps8
  go_wp2_with fail
  refine (kwithin_is _ _ _ _ _ H1.out).mono ?_
  rintro e w' ⟨rfl, rfl⟩
  go_wp2_with fail
  go_ret
  exact ⟨rfl, rfl⟩
theorem rknew_any (w : World) (M : Nat) (h1 : 1 ≤ M) (h2 : M ≤ 16) : Calls Try.prog 8 #[.int .i64 (M : Int)] w fun e w' => ∃ q, e = .returned (.pointer (some ⟨q, 0, none⟩)) ∧ RK w' q none 0 0 M 0 [] ∧ w.heap.size ≤ q ∧ Mod (fun _ => False) w w' := by
  have H1 : Hid ((decide (1 ≤ (M : Int)) && decide ((M : Int) ≤ 16)) = true) := Lib.hid (by simp; omega)
  go_enter Try.func8, Try.ntmps8
  go_wp2_with fail
  refine (kwithin_is _ _ _ _ _ H1.out).mono ?_
  rintro e w' ⟨rfl, rfl⟩
  go_wp2_with fail
  go_ret
  exact ⟨w.heap.size, rfl, ⟨h1, h2, rfl, Blk.new w 39 [.int .i64 (M : Int), .int .i64 0, .slice none 0 0], Rd.nil _ _, fun k hk => (by cases hk), fun e he => by simp at he⟩, Nat.le_refl _, Mod.alloc _ _ _⟩
set_option maxHeartbeats 4000000 in
theorem rkheld_any (w : World) (q : Nat) (a : Option Addr) (n c M N : Nat) (L : List Ud) (h : RK w q a n c M N L) (hn16 : n ≤ 16) :
    Calls Try.prog 15 #[.pointer (some ⟨q, 0, none⟩)] w fun e w' => ∃ a c, e = .returned (.slice a n c) ∧ World.ownsRow w' w.heap.size 3 1 (.slice a n c) n ((L.map (fun e => (e.seq : Int))).map (Value.int .i64)) ∧ Mod (fun _ => False) w w' := by
  obtain ⟨iI, hiI, hzI, hsI, hbI⟩ := info_parts Tk.info3
  obtain ⟨iU, hiU, hzU, hsU, hbU⟩ := info_parts RK.infoU
  have HT := Lib.hid h
  have hlen := h.len
  clear h
  go_enter Try.func15, Try.ntmps15
  go_wp2_with fail
  go_loopw [3, 4] (fun v iv wr => ∃ (j : Nat) (a2 : Option Addr) (c2 : Nat), j ≤ n ∧ iv = .int .i64 j ∧ v = .slice a2 j c2 ∧ World.ownsRow wr w.heap.size 3 1 (.slice a2 j c2) j (((L.take j).map (fun e => (e.seq : Int))).map (Value.int .i64)) ∧ Mod (fun _ => False) w wr) (fun _ iv _ => n - (intOf iv).toNat)
  case atStart => exact ⟨0, none, 0, by omega, rfl, rfl, World.ownsRow_nil _ _ _ _, Mod.refl _ _⟩
  case round =>
    obtain ⟨j, a2, c2, hj, rfl, rfl, ho, hmr⟩ := hrel
    obtain ⟨wo, hwo⟩ : ∃ x : World, x = wr := ⟨_, rfl⟩
    subst hwo
    have HO := Lib.hid ho
    have HMR := Lib.hid hmr
    have HTO := Lib.hid (HT.out.later hmr)
    have d2 := HTO.out.blk.cell 2 rfl
    clear ho hmr
    by_cases hlt : j < n
    case neg =>
      have z0 : decide ((j : Int) < (n : Int)) = false := by simp; omega
      have z1 : decide (j < n) = false := by simpa using hlt
      obtain rfl : j = n := by omega
      have HLT : Hid (L.take j = L) := Lib.hid (by rw [← hlen]; exact List.take_length)
      go_wp2_with fail
      go_ret
      exact ⟨a2, c2, rfl, by have h := HO.out; rwa [HLT.out] at h, HMR.out⟩
    case pos =>
      have z0 : decide ((j : Int) < (n : Int)) = true := by simp; omega
      have z1 : decide (j < n) = true := by simpa using hlt
      have hjl : j < L.length := by omega
      obtain ⟨eb, eo, hpl, e0, _⟩ := rd2u HTO.out.rd j hjl
      have hix := fun wx => run_indexS (P := Try.prog) wx 37 57 iU 2 Try.underlying37 hiU hsU a n c j hlt (HTO.out.rd.some_ (by omega))
      rw [hpl] at hix
      obtain ⟨x, hx⟩ : ∃ x, (L[j].seq : Int) = x := ⟨_, rfl⟩
      rw [hx] at e0
      have HST : Hid ((L.take (j + 1)).map (fun e : Ud => (e.seq : Int)) = (L.take j).map (fun e : Ud => (e.seq : Int)) ++ [x]) := Lib.hid (by rw [List.take_succ_eq_append_getElem hjl, List.map_append, ← hx]; rfl)
      clear hx hpl
      go_wp2_with (at_builtin; refine wpList_append_any rfl (.tmp 14) (.tmp 23) 22 rfl 3 iI (.int .i64 0) 1 8 Try.underlying22 hiI hzI hsI hbI rfl (by decide) _ j _ rfl (World.ownsRow.alloc (Own.base HO.out (Nat.zero_le _)) _) _ 1 [.int .i64 x] rfl (Rd.lit 3 [.int .i64 x] (0, 0) wo.heap.size 1 rfl rfl (by decide)) (by intro u hu; simp at hu; subst hu; rfl) (by unfold maxLen; omega) (by omega) ?_; intro v4 w4 hap)
      obtain ⟨a4, c4, rfl⟩ := hap.form
      have hsz := HMR.out.size
      have ho4 := hap.own
      have lo4 := hap.low (B := w.heap.size) (by simp; omega) (fun k hk => (HO.out.lt k hk).1)
      have hm4 := (HMR.out.thenAlloc (.cells #[.int .i64 x] 3)).old hap.mod (fun i hi => (HO.out.lt i hi).1)
      have HO5 := Lib.hid (Own.rebase ho4 lo4)
      have HM4 := Lib.hid hm4
      clear hap ho4 lo4 hm4 hsz
      go_wp2_with fail
      go_roundw
      case rel => exact ⟨j + 1, a4, c4, hlt, by go_num, rfl, by rw [HST.out, List.map_append]; exact HO5.out, HM4.out⟩
      case measure => simp [intOf]; omega
set_option maxHeartbeats 4000000 in
/-- Rows of the same bytes are alike. -/
theorem rows_same (w : World) (a : Option Addr) (n c : Nat) (vs : List Value) (b : Option Addr) (d : Nat) (us : List Value) (gs : List (List Int)) (hn : gs.length = n) (hnb : n ≤ 1000000) (hr : Rd w 1 (.slice a n c) n vs) (hs : Rd w 1 (.slice b n d) n us) (hv : BodiesU w gs vs) (hu : BodiesU w gs us) :
    Calls Try.prog 11 #[.slice a n c, .slice b n d] w fun e w' => e = .returned (.bool true) ∧ Mod (fun _ => False) w w' := by
  obtain ⟨iB, hiB, hzB, hsB, hbB⟩ := info_parts Tk.infoB
  have HR := Lib.hid hr
  have HS := Lib.hid hs
  have HV := Lib.hid hv
  have HU := Lib.hid hu
  clear hr hs hv hu
  have y0 : ((n : Int) != (n : Int)) = false := by simp
  go_enter Try.func11, Try.ntmps11
  go_wp2_with fail
  go_loopw [5] (fun iv wr => ∃ j : Nat, j ≤ n ∧ iv = .int .i64 j ∧ Mod (fun _ => False) w wr) (fun iv _ => n - (intOf iv).toNat)
  case atStart => exact ⟨0, by omega, rfl, Mod.refl _ _⟩
  case round =>
    obtain ⟨j, hj, rfl, hmr⟩ := hrel
    obtain ⟨wo, hwo⟩ : ∃ x : World, x = wr := ⟨_, rfl⟩
    subst hwo
    have HMR := Lib.hid hmr
    clear hmr
    by_cases hlt : j < n
    case neg =>
      have z0 : decide ((j : Int) < (n : Int)) = false := by simp; omega
      have z1 : decide (j < n) = false := by simpa using hlt
      go_wp2_with fail
      go_ret
      exact ⟨rfl, HMR.out⟩
    case pos =>
      have z0 : decide ((j : Int) < (n : Int)) = true := by simp; omega
      have z1 : decide (j < n) = true := by simpa using hlt
      have hr2 := HR.out.keep HMR.out (fun _ _ e => e)
      have hs2 := HS.out.keep HMR.out (fun _ _ e => e)
      obtain ⟨v, hv, x1, m1, d1, rfl, hl1, hb1⟩ := HV.out.2 j (by omega)
      obtain ⟨u, hu, x2, m2, d2, rfl, hl2, hb2⟩ := HU.out.2 j (by omega)
      obtain ⟨b1, o1, hp1, _⟩ := hr2.place (j := j) hlt
      obtain ⟨b2, o2, hp2, _⟩ := hs2.place (j := j) hlt
      have e1 := hr2.elem hv
      have e2 := hs2.elem hu
      rw [hp1] at e1
      rw [hp2] at e2
      have hix1 := fun wx => run_indexS (P := Try.prog) wx 31 23 iB 1 Try.underlying31 hiB hsB a n c j hlt (hr2.some_ (by omega))
      have hix2 := fun wx => run_indexS (P := Try.prog) wx 31 23 iB 1 Try.underlying31 hiB hsB b n d j hlt (hs2.some_ (by omega))
      rw [hp1] at hix1
      rw [hp2] at hix2
      have hc1 : ∀ n, Rd (wo.drewN n) 1 (.slice x1 m1 d1) m1 (gs[j].map (Value.int .u8)) := fun n => (hb1.keep HMR.out (fun _ _ e => e)).keep (Mod.drewN (fun _ => False) wo n) (fun _ _ e => e)
      have hc2 : ∀ n, Rd (wo.drewN n) 1 (.slice x2 m2 d2) m2 (gs[j].map (Value.int .u8)) := fun n => (hb2.keep HMR.out (fun _ _ e => e)).keep (Mod.drewN (fun _ => False) wo n) (fun _ _ e => e)
      obtain ⟨st, hst⟩ : ∃ s, strOf gs[j] = s := ⟨_, rfl⟩
      have k1 := fun n => run_strS (wo.drewN n) 23 9 5 Try.underlying23 Try.underlying5 Try.underlying9 (hc1 n)
      have k2 := fun n => run_strS (wo.drewN n) 23 9 5 Try.underlying23 Try.underlying5 Try.underlying9 (hc2 n)
      rw [hst] at k1 k2
      clear hp1 hp2 hc1 hc2 hst hl1 hl2 hb1 hb2 hr2 hs2 hv hu
      go_wp2_with fail
      go_quiet (fail)
      go_wp2_with fail
      go_roundw
      case rel => exact ⟨j + 1, hlt, by go_num, HMR.out.of2 (Mod.drewN _ _ _)⟩
      case measure => simp [intOf]; omega
end Go.Proofs.Ytffcoajodpfngaa
