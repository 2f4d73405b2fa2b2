/- table's Add, by contract. -/
import Derived.Test.YtfdmjnhhgcidbaaTb3
namespace Go.Proofs.Ytfdmjnhhgcidbaa
open Go.RowKit Mile
set_option maxRecDepth 100000
theorem tbadd_ok {w : World} {p M : Nat} {es : Nat → TbE} {gr : Nat → Int} (h : TB w p M es gr) (b i : Nat) (hi : i < 16) (conn : Int) (ch : Value) (hb : Blk w b 98 [.int .i64 (i : Int), .int .i64 conn, ch, .pointer none, .int .i64 0]) (hbp : b ≠ p)
(hmay : mayC M es gr (i : Int) conn = 0) : Calls Try.prog 34 #[.pointer (some ⟨p, 0, none⟩), .pointer (some ⟨b, 0, none⟩)] w fun e w' => e = .returned (.int .i64 0) ∧ TB w' p M (updT es i (some (b, ch))) (updT gr i conn) ∧ Mod (fun k => k = p) w w' := by
  have hconn : 1 ≤ conn ∧ conn ≤ 2147483648 := by unfold mayC at hmay; by_cases e : (i : Int) < 0 ∨ 16 ≤ (i : Int) ∨ conn < 1 ∨ 2147483648 < conn; (rw [if_pos e] at hmay; omega); omega
  have HMY := Lib.hid (fun (W : World) (hm : Mod (fun _ => False) w W) => tbmay_any (h.later hm) (i : Int) conn)
  rw [hmay] at HMY
  obtain ⟨iE, hiE, hzE, hsE, hbE⟩ := info_parts Tb.infoE
  obtain ⟨iI, hiI, hzI, hsI, hbI⟩ := info_parts Tb.infoI
  have q0 := hb.cell 0 rfl
  have q1 := hb.cell 1 rfl
  have HT := Lib.hid h
  have HB := Lib.hid hb
  clear h hb hmay
  go_enter Try.func34, Try.ntmps34
  go_wp2_with fail
  go_still_tail 9, (by kernel_rfl)
  change wpList _ _ _ _ _ (World.drew w)
  go_wp2_with fail
  refine (HMY.out _ (Mod.drew (fun _ => False) w)).mono ?_
  rintro e w1 ⟨rfl, hm⟩
  have hm1 := (Mod.drew (fun _ => False) w).of2 hm
  have hb1 := HB.out.keep hm1 (fun e => e)
  have ht1 := HT.out.later hm1
  have q0 := hb1.cell 0 rfl
  have q1 := hb1.cell 1 rfl
  have HT1 := Lib.hid ht1
  have HB1 := Lib.hid hb1
  have HM1 := Lib.hid hm1
  have ce := ht1.cellE hi
  have cg := ht1.cellG hi
  have fe := ht1.blk.free (1 + i)
  have fg := ht1.blk.free (17 + i)
  have lp := ht1.blk.lt
  have lb := hb1.lt
  have hixG := fun wx => run_indexA16 (P := Try.prog) wx 104 3 iI Try.underlying104 hiI hsI p 17 i hi
  have hixE := fun wx => run_indexA16 (P := Try.prog) wx 149 90 iE Try.underlying149 hiE hsE p 1 i hi
  clear hm hm1 hb1 ht1 HT HB
  go_wp2_with fail
  go_region
  go_wp2_with fail
  go_ret
  obtain ⟨wX, hwX⟩ : ∃ x, (w1.setCell ⟨p, 1 + i, none⟩ (.pointer (some ⟨b, 0, none⟩))).setCell ⟨p, 17 + i, none⟩ (.int .i64 conn) = x := ⟨_, rfl⟩
  have hset : Mod (fun k => k = p) w1 wX := by rw [← hwX]; exact (Mod.setCell (F := fun k => k = p) w1 ⟨p, 1 + i, none⟩ _ rfl).trans (Mod.setCell (F := fun k => k = p) _ ⟨p, 17 + i, none⟩ _ rfl) (fun _ _ e => e) (fun _ _ e => e)
  have hblk : Blk wX p 151 (tbC M (updT es i (some (b, ch))) (updT gr i conn)) := by
    rw [← hwX, ← tbC_setG _ _ _ hi, ← tbC_setE _ _ _ hi]
    exact (HT1.out.blk.set (1 + i) (tbV (some (b, ch)))).set (17 + i) _
  have hb2 := HB1.out.keep hset hbp
  have hfin : TB wX p M (updT es i (some (b, ch))) (updT gr i conn) := by
    refine ⟨HT1.out.m1, HT1.out.m16, hblk, fun j hj b' ch' e => ?_, fun j hj => ?_⟩
    · by_cases hji : j = i
      · subst hji
        rw [updT_at] at e ⊢
        simp only [Option.some.injEq, Prod.mk.injEq] at e
        obtain ⟨rfl, rfl⟩ := e
        exact ⟨hb2, hbp⟩
      · rw [updT_ne _ _ hji] at e ⊢
        obtain ⟨h1, h2⟩ := HT1.out.ent j hj b' ch' e
        exact ⟨h1.keep hset h2, h2⟩
    · by_cases hji : j = i
      · subst hji; rw [updT_at]; omega
      · rw [updT_ne _ _ hji]; exact HT1.out.grb j hj
  (try rw [hwX])
  exact ⟨rfl, hfin.later (Mod.drew _ _), (HM1.out.trans hset (H := fun k => k = p) (fun _ _ e => e.elim) (fun _ _ e => e)).trans (Mod.drew (fun k => k = p) wX) (fun _ _ e => e) (fun _ _ e => e)⟩
theorem tbadd_no {w : World} {p M : Nat} {es : Nat → TbE} {gr : Nat → Int} (h : TB w p M es gr) (b : Nat) (peer conn : Int) (ch : Value) (hb : Blk w b 98 [.int .i64 peer, .int .i64 conn, ch, .pointer none, .int .i64 0]) (r : Int) (hmay : mayC M es gr peer conn = r) (hr : r ≠ 0) : Calls Try.prog 34 #[.pointer (some ⟨p, 0, none⟩), .pointer (some ⟨b, 0, none⟩)] w fun e w' => e = .returned (.int .i64 r) ∧ Mod (fun _ => False) w w' := by
  have HMY := Lib.hid (fun (W : World) (hm : Mod (fun _ => False) w W) => tbmay_any (h.later hm) peer conn)
  rw [hmay] at HMY
  have q0 := hb.cell 0 rfl
  have q1 := hb.cell 1 rfl
  have y0 : (r != 0) = true := by simpa using hr
  clear h hb hmay hr
  go_enter Try.func34, Try.ntmps34
  go_wp2_with fail
  go_still_tail 9, (by kernel_rfl)
  change wpList _ _ _ _ _ (World.drew w)
  go_wp2_with fail
  refine (HMY.out _ (Mod.drew (fun _ => False) w)).mono ?_
  rintro e w1 ⟨rfl, hm⟩
  have HM1 := Lib.hid ((Mod.drew (fun _ => False) w).of2 hm)
  clear hm
  go_wp2_with fail
  go_ret
  exact ⟨rfl, HM1.out⟩
theorem tbadd_nilT (w : World) (b : Nat) (peer conn : Int) (ch : Value) (hb : Blk w b 98 [.int .i64 peer, .int .i64 conn, ch, .pointer none, .int .i64 0]) : Calls Try.prog 34 #[.pointer none, .pointer (some ⟨b, 0, none⟩)] w fun e w' => e = .returned (.int .i64 1) ∧ Mod (fun _ => False) w w' := by
  have q0 := hb.cell 0 rfl
  have q1 := hb.cell 1 rfl
  clear hb
  go_enter Try.func34, Try.ntmps34
  go_wp2_with fail
  go_still_tail 9, (by kernel_rfl)
  change wpList _ _ _ _ _ (World.drew w)
  go_wp2_with fail
  refine (tbmay_nil _ _ _).mono ?_
  rintro e w1 ⟨rfl, rfl⟩
  go_wp2_with fail
  go_ret
  exact ⟨rfl, Mod.drew _ _⟩
end Go.Proofs.Ytfdmjnhhgcidbaa
