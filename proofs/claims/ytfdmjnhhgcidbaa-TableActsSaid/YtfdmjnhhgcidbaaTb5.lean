/- Law 29's entry and peers, by contract. -/
import Derived.Test.YtfdmjnhhgcidbaaTb4
import Derived.Test.YtfdmjnhhgcidbaaCh1
import Derived.Test.YtfdmjnhhgcidbaaInts
import Derived.Test.YtfdmjnhhgcidbaaIRowP
namespace Go.Proofs.Ytfdmjnhhgcidbaa
open Go.RowKit Mile
set_option maxRecDepth 100000
theorem entry_any (w : World) (peer conn : Int) : Calls Try.prog 35 #[.int .i64 peer, .int .i64 conn] w fun e w' => ∃ b ch, e = .returned (.pointer (some ⟨b, 0, none⟩)) ∧ Blk w' b 98 [.int .i64 peer, .int .i64 conn, ch, .pointer none, .int .i64 0] ∧ w.heap.size ≤ b ∧ Mod (fun _ => False) w w' := by
  by_cases hc : 1 ≤ conn ∧ conn ≤ 2147483648
  · have hn : Calls Try.prog 14 #[.agg #[.int .i64 1, .int .i64 1, .int .i64 0, .int .i64 1, .int .i64 1, .int .i64 1], .int .i64 conn] w _ := chnew_any w 1 1 conn 1 0 1 1 (by unfold fitC; omega) hc
    have HN := Lib.hid hn
    clear hn hc
    go_enter Try.func35, Try.ntmps35
    go_wp2_with fail
    refine HN.out.mono ?_
    rintro e w1 ⟨cp, sp, tp, kp, kr, rfl, hnew⟩
    have HM := Lib.hid hnew.md
    clear hnew HN
    go_wp2_with fail
    go_ret
    exact ⟨w1.heap.size, .pointer (some ⟨cp, 0, none⟩), rfl, Blk.new w1 98 [.int .i64 peer, .int .i64 conn, .pointer (some ⟨cp, 0, none⟩), .pointer none, .int .i64 0], HM.out.size, HM.out.of2 (Mod.alloc _ _ _)⟩
  · have hn := chnew_no w 1 1 0 1 1 1 conn (fun x => hc x.2)
    have HN := Lib.hid hn
    clear hn hc
    go_enter Try.func35, Try.ntmps35
    go_wp2_with fail
    refine HN.out.mono ?_
    rintro e w1 ⟨rfl, hm⟩
    have HM := Lib.hid hm
    clear hm HN
    go_wp2_with fail
    go_ret
    exact ⟨w1.heap.size, .pointer none, rfl, Blk.new w1 98 [.int .i64 peer, .int .i64 conn, .pointer none, .pointer none, .int .i64 0], HM.out.size, HM.out.of2 (Mod.alloc _ _ _)⟩
def liveI (es : Nat → TbE) : List Int := (liveN es 16).map fun i : Nat => (i : Int)
theorem liveI_len (es : Nat → TbE) : (liveI es).length = (liveN es 16).length := by unfold liveI; simp
set_option maxHeartbeats 8000000 in
theorem peers_any {w : World} {p M : Nat} {es : Nat → TbE} {gr : Nat → Int} (h : TB w p M es gr) (a : Option Addr) (n c : Nat) (hn : (liveN es 16).length = n) (hr : Rd w 1 (.slice a n c) n ((liveN es 16).map fun i => tbV (es i))) :
    Calls Try.prog 44 #[.slice a n c] w fun e w' => ∃ a' c', e = .returned (.slice a' n c') ∧ World.ownsRow w' w.heap.size 3 1 (.slice a' n c') n ((liveI es).map (Value.int .i64)) ∧ Mod (fun _ => False) w w' := by
  obtain ⟨iE, hiE, hzE, hsE, hbE⟩ := info_parts Tb.infoE
  obtain ⟨iI, hiI, hzI, hsI, hbI⟩ := info_parts Tb.infoI
  have HT := Lib.hid h
  have HR := Lib.hid hr
  have HN := Lib.hid hn
  have hn16 : n ≤ 16 := by have := liveN_len es 16; omega
  clear h hr hn
  go_enter Try.func44, Try.ntmps44
  go_wp2_with fail
  go_loopw [3, 4] (fun v iv wr => ∃ (j : Nat) (a2 : Option Addr) (c2 : Nat), j ≤ n ∧ iv = .int .i64 j ∧ v = .slice a2 j c2 ∧ World.ownsRow wr w.heap.size 3 1 (.slice a2 j c2) j (((liveI es).take j).map (Value.int .i64)) ∧ Mod (fun _ => False) w wr) (fun _ iv _ => n - (intOf iv).toNat)
  case atStart => exact ⟨0, none, 0, by omega, rfl, rfl, World.ownsRow_nil _ _ _ _, Mod.refl _ _⟩
  case round =>
    obtain ⟨j, a2, c2, hj, rfl, rfl, ho, hmr⟩ := hrel
    obtain ⟨wo, hwo⟩ : ∃ x : World, x = wr := ⟨_, rfl⟩
    subst hwo
    have HO := Lib.hid ho
    have HMR := Lib.hid hmr
    have HTO := Lib.hid (HT.out.later hmr)
    have HRO := Lib.hid (HR.out.keep hmr (fun _ _ e => e))
    clear ho hmr
    by_cases hlt : j < n
    case neg =>
      have z0 : decide ((j : Int) < (n : Int)) = false := by simp; omega
      have z1 : decide (j < n) = false := by simpa using hlt
      obtain rfl : j = n := by omega
      have HLT : Hid ((liveI es).take j = liveI es) := Lib.hid (List.take_of_length_le (by rw [liveI_len, HN.out]; exact Nat.le_refl _))
      go_wp2_with fail
      go_ret
      exact ⟨a2, c2, rfl, by have h := HO.out; rwa [HLT.out] at h, HMR.out⟩
    case pos =>
      have z0 : decide ((j : Int) < (n : Int)) = true := by simp; omega
      have z1 : decide (j < n) = true := by simpa using hlt
      have hjl : j < (liveN es 16).length := by have := HN.out; omega
      obtain ⟨k, hk⟩ : ∃ k, (liveN es 16)[j] = k := ⟨_, rfl⟩
      have hmem := mem_liveN.1 (show k ∈ liveN es 16 by rw [← hk]; exact List.getElem_mem hjl)
      obtain ⟨x, hx⟩ := Option.isSome_iff_exists.1 hmem.2
      obtain ⟨b, ch⟩ := x
      obtain ⟨hbk, _⟩ := HTO.out.ent k hmem.1 b ch hx
      have q0 := hbk.cell 0 rfl
      obtain ⟨eb, eo, hpl, _⟩ := HRO.out.place (j := j) hlt
      have e0 := HRO.out.elem (j := j) (u := .pointer (some ⟨b, 0, none⟩)) (by rw [List.getElem?_map, List.getElem?_eq_getElem hjl, hk]; simp [hx, tbV])
      rw [hpl] at e0
      have hix := fun wx => run_indexS (P := Try.prog) wx 94 90 iE 1 Try.underlying94 hiE hsE a n c j hlt (HRO.out.some_ (by omega))
      rw [hpl] at hix
      have HST : Hid ((liveI es).take (j + 1) = (liveI es).take j ++ [(k : Int)]) := Lib.hid (by
        have h9 : j < (liveI es).length := by rw [liveI_len]; exact hjl
        rw [List.take_succ_eq_append_getElem h9]
        have h8 : (liveI es)[j]? = some (k : Int) := by unfold liveI; rw [List.getElem?_map, List.getElem?_eq_getElem hjl, hk]; rfl
        rw [List.getElem?_eq_getElem h9] at h8
        rw [Option.some.inj h8])
      clear hpl hbk hk hmem hx
      go_wp2_with (at_builtin; refine wpList_append_any rfl (.tmp 17) (.tmp 25) 70 rfl 3 iI (.int .i64 0) 1 8 Try.underlying70 hiI hzI hsI hbI rfl (by decide) _ j _ rfl (World.ownsRow.alloc (Own.base HO.out (Nat.zero_le _)) _) _ 1 [.int .i64 (k : Int)] rfl (Rd.lit 3 [.int .i64 (k : Int)] (0, 0) wo.heap.size 1 rfl rfl (by decide)) (by intro u hu; simp at hu; subst hu; rfl) (by unfold maxLen; omega) (by omega) ?_; intro v4 w4 hap)
      obtain ⟨a4, c4, rfl⟩ := hap.form
      have hsz := HMR.out.size
      have ho4 := hap.own
      have lo4 := hap.low (B := w.heap.size) (by simp; omega) (fun k hk => (HO.out.lt k hk).1)
      have hm4 := (HMR.out.thenAlloc (.cells #[.int .i64 (k : Int)] 3)).old hap.mod (fun i hi => (HO.out.lt i hi).1)
      have HO5 := Lib.hid (Own.rebase ho4 lo4)
      have HM4 := Lib.hid hm4
      clear hap ho4 lo4 hm4 hsz
      go_wp2_with fail
      go_roundw
      case rel => exact ⟨j + 1, a4, c4, hlt, by go_num, rfl, by rw [HST.out, List.map_append]; exact HO5.out, HM4.out⟩
      case measure => simp [intOf]; omega
end Go.Proofs.Ytfdmjnhhgcidbaa
