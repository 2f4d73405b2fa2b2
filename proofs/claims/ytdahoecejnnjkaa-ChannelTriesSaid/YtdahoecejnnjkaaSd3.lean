/- sender's Send, by contract. -/
import Derived.Test.YtdahoecejnnjkaaSd2
namespace Go.Proofs.Ytdahoecejnnjkaa
open Go.RowKit Mile Go.Maps
set_option maxRecDepth 100000
section
variable {w : World} {p tp : Nat} {tb : Option Nat} {W F : Nat} {a : Option Addr} {n c : Nat} {over : Bool} {B M R : Nat} {L : List Wt} {us : UdL}
/-- A body was put behind the others. -/
theorem SD.sent (h : SD w p tp tb W F a n c over B M R L us) (hn : n < W) {w5 : World} {a3 : Option Addr} {c3 : Nat} {v : Value} (hap : Appended w w5 38 1 (.slice a n c) (.slice a3 (n + 1) c3) (n + 1) (us.map (·.2) ++ [v])) (b : List Int) (hb : BodyT w b v) :
    SD (w5.setCell ⟨p, 3, none⟩ (.slice a3 (n + 1) c3)) p tp tb W F a3 (n + 1) c3 over B M R L (us ++ [(b, v)]) ∧ (∀ k, (Value.slice a3 (n + 1) c3).ownBlock = some k → (Value.slice a n c).ownBlock = some k ∨ w.heap.size ≤ k) ∧ Mod (sdF p tp tb a) w (w5.setCell ⟨p, 3, none⟩ (.slice a3 (n + 1) c3)) := by
  have hm := hap.mod
  have hsm : Mod (fun k => k = p) w5 (w5.setCell ⟨p, 3, none⟩ (.slice a3 (n + 1) c3)) := Mod.setCell (F := fun k => k = p) w5 ⟨p, 3, none⟩ _ rfl
  have hM : Mod (sdF p tp tb a) w (w5.setCell ⟨p, 3, none⟩ (.slice a3 (n + 1) c3)) := hm.trans hsm (fun k _ hk => .inr (.inr (by rw [← hk]; exact own_slice a 0 0 n c))) (fun k _ e => .inl e)
  have hrow : ∀ k, (Value.slice a3 (n + 1) c3).ownBlock = some k → k ≠ p ∧ ¬ tmF tp tb k := fun k hk => by
    rcases hap.row k hk with h1 | h1
    · exact h.row k h1
    · exact ⟨fun e => by have := h.blk.lt; omega, fun e => by have := h.tm.lt k e; omega⟩
  refine ⟨⟨h.w1, h.w16, by rw [List.length_append, h.len]; rfl, hn, (h.blk.keep hm (fun e => (h.row p e).1 rfl)).set 3 _, (h.tm.keep hm (fun k hk e => (h.row k e).2 hk)).keep hsm (fun k hk e => h.ptp (e ▸ hk)), ?_, fun u hu => ?_, h.ptp, hrow⟩, hap.row, hM⟩
  · have := Own.keep hap.own hsm (fun k hk e => (hrow k hk).1 e)
    rw [List.map_append]; exact this
  · rcases List.mem_append.1 hu with hu | hu
    · exact (h.bodies u hu).keep hM (fun k _ hk => h.noT k hk)
    · rw [List.mem_singleton] at hu
      subst hu
      exact hb.keep hM (fun k _ hk => h.noT k hk)
/-- The timer turned. -/
theorem SD.tick (h : SD w p tp tb W F a n c over B M R L us) {w' : World} {L' : List Wt} (ht : TmP tp tb B M R L' w w') :
    ∃ tb', SD w' p tp tb' W F a n c over B M R L' us ∧ (∀ k, tmF tp tb' k → tmF tp tb k ∨ w.heap.size ≤ k) ∧ (∀ k, tmF tp tb k → tmF tp tb' k) ∧ Mod (tmF tp tb) w w' := by
  obtain ⟨tb', htm, h1, h2, hm⟩ := ht
  have hgrow : ∀ k, tmF tp tb' k → tmF tp tb k ∨ w.heap.size ≤ k := fun k hk => by
    rcases hk with e | e
    · exact .inl (.inl e)
    · exact (h1 k e).imp .inr id
  refine ⟨tb', ⟨h.w1, h.w16, h.len, h.nW, h.blk.keep hm h.ptp, htm, Own.keep h.own hm (fun k hk => (h.row k hk).2), fun u hu => (h.bodies u hu).keep hm (fun k _ hk => h.noT k (.inr (.inl hk))), fun e => ?_, fun k hk => ⟨(h.row k hk).1, fun e => ?_⟩⟩, hgrow, fun k hk => ?_, hm⟩
  · rcases hgrow p e with e | e
    · exact h.ptp e
    · have := h.blk.lt; omega
  · rcases hgrow k e with e | e
    · exact (h.row k hk).2 e
    · have := Own.lt h.own hk; omega
  · rcases hk with e | e
    · exact .inl e
    · exact .inr (h2 k e)
/-- What a call that turns the sender leaves. -/
def SdQ (p tp : Nat) (tb : Option Nat) (a : Option Addr) (W F n : Nat) (over : Bool) (B M R : Nat) (L : List Wt) (us : UdL) (w w' : World) : Prop :=
  ∃ tb' a' c', SD w' p tp tb' W F a' n c' over B M R L us ∧ (∀ k, sdF p tp tb' a' k → sdF p tp tb a k ∨ w.heap.size ≤ k) ∧ Mod (sdF p tp tb a) w w'
theorem sdsend_over (h : SD w p tp tb W F a n c true B M R L us) (now : Int) (v : Value) : Calls Try.prog 49 #[.pointer (some ⟨p, 0, none⟩), .int .i64 now, v] w fun e w' => e = .returned (.tuple #[.int .i64 0, .int .i64 6]) ∧ w = w' := by
  have HO := Lib.hid (sdover_any h)
  clear h
  go_enter Try.func49, Try.ntmps49
  go_wp2_with fail
  refine HO.out.mono ?_
  rintro e w' ⟨rfl, rfl⟩
  go_wp2_with fail
  go_ret2
  exact ⟨rfl, rfl⟩
theorem sdsend_full (h : SD w p tp tb W F a n c false B M R L us) (hn : n = W) (now : Int) (v : Value) : Calls Try.prog 49 #[.pointer (some ⟨p, 0, none⟩), .int .i64 now, v] w fun e w' => e = .returned (.tuple #[.int .i64 0, .int .i64 5]) ∧ Mod (fun _ => False) w w' := by
  have HO := Lib.hid (sdover_any h)
  have hr := sdroom_any h
  have e0 : (if (false : Bool) = true then (0 : Int) else ((W - n : Nat) : Int)) = 0 := by simp; omega
  rw [e0] at hr
  have HR := Lib.hid hr
  clear h hn hr e0
  go_enter Try.func49, Try.ntmps49
  go_wp2_with fail
  refine HO.out.mono ?_
  rintro e w' ⟨rfl, rfl⟩
  go_wp2_with fail
  refine HR.out.mono ?_
  rintro e w' ⟨rfl, hm⟩
  have HM := Lib.hid hm
  clear hm
  go_wp2_with fail
  go_ret2
  exact ⟨rfl, HM.out⟩
set_option maxHeartbeats 4000000 in
theorem sdsend_any (h : SD w p tp tb W F a n c false B M R L us) (hn : n < W) (hF : F ≤ 1000000000000) (hL : L.length ≤ 1000000000) (now : Int) (hnow : -4611686018427387904 ≤ now ∧ now ≤ 4611686018427387904) (bs : List Int) (bv : Value) (hrd : Rd w 1 bv bs.length (bs.map (Value.int .u8))) (hbd : bs.length ≤ 1000000000) :
    Calls Try.prog 49 #[.pointer (some ⟨p, 0, none⟩), .int .i64 now, bv] w fun e w' => e = .returned (.tuple #[.int .i64 ((F + n : Nat) : Int), .int .i64 0]) ∧ ∃ v, SdQ p tp tb a W F (n + 1) false B M R (putW L ⟨((F + n : Nat) : Int), now + (B : Int), 0⟩) (us ++ [(bs, v)]) w w' ∧ ∀ k, v.ownBlock = some k → w.heap.size ≤ k := by
  obtain ⟨iB, hiB, hzB, hsB, hbB⟩ := info_parts Sd.infoB
  have HO := Lib.hid (sdover_any h)
  have hr := sdroom_any h
  have e0 : (if (false : Bool) = true then (0 : Int) else ((W - n : Nat) : Int)) = ((W - n : Nat) : Int) := by simp
  rw [e0] at hr
  obtain ⟨r, hrr⟩ : ∃ r, ((W - n : Nat) : Int) = r := ⟨_, rfl⟩
  rw [hrr] at hr
  have z0 : (r == 0) = false := by rw [beq_eq_false_iff_ne]; omega
  have HR := Lib.hid hr
  have hW := h.w16
  have hmx1 : n + 1 ≤ maxLen := by unfold maxLen; omega
  have hmx2 : (n + 1) * 24 ≤ 140737488355328 := by omega
  obtain ⟨q, hq⟩ : ∃ q, F + n = q := ⟨_, rfl⟩
  have hqw : (Lit.int .i64 (q : Int)).wf = true := (i64_wf _).2 ⟨by omega, by omega⟩
  rw [hq]
  have HQ := Lib.hid hq
  have HH := Lib.hid h
  have HRD := Lib.hid hrd
  have HLL := Lib.hid hL
  clear h hr e0 hrr hq hL
  go_enter Try.func49, Try.ntmps49
  go_wp2_with fail
  refine HO.out.mono ?_
  rintro e w' ⟨rfl, rfl⟩
  go_wp2_with fail
  refine HR.out.mono ?_
  rintro e w1 ⟨rfl, hm⟩
  have HM1 := Lib.hid hm
  clear hm
  go_wp2_with fail
  refine (sdseq_any (HH.out.later HM1.out) hF).mono ?_
  rintro e w2 ⟨rfl, hm⟩
  rw [HQ.out]
  have HM2 := Lib.hid (HM1.out.trans hm (fun _ _ e => e) (fun _ _ e => e))
  clear hm
  have h2 := HH.out.later HM2.out
  have c3 := h2.blk.cell 3 rfl
  have HRD2 := Lib.hid ((HRD.out.keep HM2.out (fun _ _ e => e)).keep (Mod.drew (fun _ => False) _) (fun _ _ e => e))
  have H2 := Lib.hid (h2.later (Mod.drew (fun _ => False) w2))
  clear h2
  go_upto_region 6 with fail
  go_region_law (first | (refine step_append_any rfl (.tmp 19) (.tmp 22) 48 rfl 38 iB (.slice none 0 0) 1 24 Try.underlying48 hiB hzB hsB hbB rfl (by decide) (.slice a n c) n (us.map (·.2)) (by simp [Act.eval, Act.put]) (by exact HSL.out.own) (.slice (some ⟨wb.heap.size, 0, none⟩) 1 1) 1 [.slice av bs.length cv] (by simp [Act.eval, Act.put]) (by exact Rd.lit 38 [.slice av bs.length cv] (0, 0) _ 1 rfl rfl (by decide)) (by simp [Value.oneCell']) hmx1 hmx2 ?_; intro v' w' hap; obtain ⟨a3, c3', rfl⟩ := hap.form; have hgw := HSL.out.blk.keep hap.mod (fun e => (HSL.out.row p e).1 rfl); have qw3 := hgw.cell 3 rfl; have fw3 := hgw.free 3; have lw := hgw.lt; have HAP := Lib.hid hap; clear hap hgw) | (go_simp; go_at_call 35; refine (clone_any _ bv bs HRD2.out hbd).mono ?_; rintro e wb ⟨v', rfl, hf, hm, av, cv, rfl⟩; have hsb := H2.out.later hm; have qb3 := hsb.blk.cell 3 rfl; have fb3 := hsb.blk.free 3; have lb := hsb.blk.lt; have HVF := Lib.hid hf; have hbt : BodyT wb bs (.slice av bs.length cv) := ⟨av, bs.length, cv, rfl, rfl, Own.base hf (Nat.zero_le _)⟩; have HBT := Lib.hid (hbt.keep (Mod.alloc (fun _ => False) wb (.cells #[.slice av bs.length cv] 38)) (fun _ _ e => e.elim)); have HSL := Lib.hid (hsb.later (Mod.alloc (fun _ => False) wb (.cells #[.slice av bs.length cv] 38))); have HMB := Lib.hid ((hm.trans (Mod.alloc (fun _ => False) wb (.cells #[.slice av bs.length cv] 38)) (fun _ _ e => e) (fun _ _ e => e))); clear hsb hf hm hbt))
  all_goals
    obtain ⟨hsd, hgr, hmd⟩ := HSL.out.sent hn HAP.out bs HBT.out
    obtain ⟨wx, hwx⟩ : ∃ x, w'.setCell ⟨p, 3, none⟩ (.slice a3 (n + 1) c3') = x := ⟨_, rfl⟩
    rw [hwx] at hsd hmd ⊢
    have HSD := Lib.hid hsd
    have HGR := Lib.hid hgr
    have HMD := Lib.hid ((HM2.out.trans (Mod.drew (fun _ => False) w2) (fun _ _ e => e) (fun _ _ e => e)).trans (HMB.out.trans hmd (F := fun _ => False) (H := sdF p tp tb a) (fun _ _ e => e.elim) (fun _ _ e => e)) (H := sdF p tp tb a) (fun _ _ e => e.elim) (fun _ _ e => e))
    have d0 := hsd.blk.cell 0 rfl
    have HZ : Hid (w.heap.size ≤ (wb.alloc (Obj.cells #[Value.slice av bs.length cv] 38)).heap.size) := Lib.hid (by have h1 := HM2.out.size; have h2 := HMB.out.size; have h3 : (World.drew w2).heap.size = w2.heap.size := rfl; omega)
    clear hsd hgr hmd hwx qw3 fw3 lw qb3 fb3 lb c3 HAP HSL HBT
    go_wp2_with fail
    refine (tstart_any wx tp tb B M R L HSD.out.tm HLL.out (q : Int) now hqw hnow).mono ?_
    rintro e w6 ⟨rfl, ht⟩
    obtain ⟨tb', hs6, hg6, _, hm6⟩ := HSD.out.tick ht
    have HS6 := Lib.hid hs6
    have HG6 := Lib.hid hg6
    have HM6 := Lib.hid hm6
    clear hs6 hg6 hm6 ht d0
    go_wp2_with fail
    go_ret2
    refine ⟨rfl, .slice av bs.length cv, ⟨tb', a3, c3', HS6.out, fun k hk => ?_, HMD.out.trans HM6.out (fun _ _ e => e) (fun i _ e => .inr (.inl e))⟩, fun k hk => by have h1 := (World.ownsRow.lt HVF.out k hk).1; have h2 := HM2.out.size; have h3 : (World.drew w2).heap.size = w2.heap.size := rfl; omega⟩
    rcases hk with e | e | e
    · exact .inl (.inl e)
    · rcases HG6.out k e with e | e
      · exact .inl (.inr (.inl e))
      · exact .inr (by have := HMD.out.size; omega)
    · rcases HGR.out k (by rw [← e]; exact own_slice a3 _ _ 0 0) with e | e
      · exact .inl (.inr (.inr (by rw [← e]; exact own_slice a 0 0 n c)))
      · exact .inr (by have := HZ.out; omega)
end
end Go.Proofs.Ytdahoecejnnjkaa
