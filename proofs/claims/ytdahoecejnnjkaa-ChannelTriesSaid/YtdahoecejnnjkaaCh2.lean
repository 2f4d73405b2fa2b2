/- channel's gone, Conn, Owed, data, by contract. -/
import Derived.Test.YtdahoecejnnjkaaChP
import Derived.StillTailTactics
namespace Go.Proofs.Ytdahoecejnnjkaa
open Go.RowKit Mile Go.Maps
set_option maxRecDepth 100000
theorem chgone_nil (w : World) : Calls Try.prog 34 #[.pointer none] w fun e w' => e = .returned (.bool true) ∧ w = w' := by
  go_enter Try.func34, Try.ntmps34
  go_wp2_with fail
  go_ret
  exact ⟨rfl, rfl⟩
section
variable {w w' : World} {p sp tp : Nat} {tb : Option Nat} {a : Option Addr} {c : Nat} {us : UdL} {kp kr : Nat} {ao : Option Addr} {co : Nat} {ou : UdL} {W B M R : Nat} {conn : Int} {x : ChS}
theorem chgone_any (h : CHm w p sp tp tb a c us kp kr ao co ou W B M R conn x) : Calls Try.prog 34 #[.pointer (some ⟨p, 0, none⟩)] w fun e w' => e = .returned (.bool x.o) ∧ w = w' := by
  have c0 := h.blk.cell 0 rfl
  have HO := Lib.hid (sdover_any h.sd)
  clear h
  go_enter Try.func34, Try.ntmps34
  go_wp2_with fail
  refine HO.out.mono ?_
  rintro e w' ⟨rfl, rfl⟩
  go_wp2_with fail
  go_ret
  exact ⟨rfl, rfl⟩
theorem chowed_any (h : CHm w p sp tp tb a c us kp kr ao co ou W B M R conn x) : Calls Try.prog 21 #[.pointer (some ⟨p, 0, none⟩)] w fun e w' => e = .returned (.int .i64 (x.os.length : Int)) ∧ w = w' := by
  have c3 := h.blk.cell 3 rfl
  clear h
  go_enter Try.func21, Try.ntmps21
  go_wp2_with fail
  go_ret
  exact ⟨rfl, rfl⟩
theorem chconn_any (h : CHm w p sp tp tb a c us kp kr ao co ou W B M R conn x) : Calls Try.prog 22 #[.pointer (some ⟨p, 0, none⟩)] w fun e w' => e = .returned (.int .i64 conn) ∧ w = w' := by
  have c2 := h.blk.cell 2 rfl
  clear h
  go_enter Try.func22, Try.ntmps22
  go_wp2_with fail
  go_ret
  exact ⟨rfl, rfl⟩
theorem Mod.set6 (w : World) (g : Nat) (v0 v1 v2 v3 v4 v5 : Value) : Mod (fun k => k = g) w (((((((w.setCell ⟨g, 0, none⟩ v0).setCell ⟨g, 1, none⟩ v1).setCell ⟨g, 2, none⟩ v2).setCell ⟨g, 3, none⟩ v3).setCell ⟨g, 4, none⟩ v4).setCell ⟨g, 5, none⟩ v5).drew) := by
  have s := fun (w : World) (i : Nat) (v : Value) => (Mod.setCell (F := fun k => k = g) w ⟨g, i, none⟩ v rfl)
  have j : ∀ {w1 w2 w3 : World}, Mod (fun k => k = g) w1 w2 → Mod (fun k => k = g) w2 w3 → Mod (fun k => k = g) w1 w3 := fun a b => a.trans b (fun _ _ e => e) (fun _ _ e => e)
  exact j (j (j (j (j (j (s _ _ _) (s _ _ _)) (s _ _ _)) (s _ _ _)) (s _ _ _)) (s _ _ _)) (Mod.drew _ _)
/-- A datagram that bears a body. -/
def dgV (conn seq ack : Int) (v : Value) : Value := .agg #[.int .i64 conn, .int .i64 1, .int .i64 seq, .int .i64 ack, .int .i64 0, v]
theorem chdata_any (h : CHm w p sp tp tb a c us kp kr ao co ou W B M R conn x) (hF : x.F ≤ 1000000000000) (k : Nat) (hk : k < x.bs.length) (hbd : (x.bs[k]).length ≤ 1000000000) (q : Int) (hq : q = (x.F : Int) + (k : Int)) : Calls Try.prog 44 #[.pointer (some ⟨p, 0, none⟩), .int .i64 q] w fun e w' => ∃ v, e = .returned (dgV conn q (x.N : Int) v) ∧ Fresh w' w.heap.size v (x.bs[k]) ∧ (∃ a' c', v = .slice a' (x.bs[k]).length c') ∧ Mod (fun _ => False) w w' := by
  have hku : k < us.length := by have := congrArg List.length h.hb; rw [List.length_map] at this; omega
  have hbe : (us[k]).1 = x.bs[k] := by
    have h1 := h.hb
    have h2 : (us.map (·.1))[k]'(by rw [List.length_map]; exact hku) = x.bs[k] := by simp only [h1]
    rw [List.getElem_map] at h2
    exact h2
  obtain ⟨g, hg⟩ : ∃ y, w.heap.size = y := ⟨_, rfl⟩
  obtain ⟨wA, hwA⟩ : ∃ y, w.alloc (.cells #[.int .i64 0, .int .i64 0, .int .i64 0, .int .i64 0, .int .i64 0, .slice none 0 0] 40) = y := ⟨_, rfl⟩
  have hgA : Blk wA g 40 [.int .i64 0, .int .i64 0, .int .i64 0, .int .i64 0, .int .i64 0, .slice none 0 0] := by rw [← hwA, ← hg]; exact Blk.new w 40 [.int .i64 0, .int .i64 0, .int .i64 0, .int .i64 0, .int .i64 0, .slice none 0 0]
  have hmA : Mod (fun _ => False) w wA := by rw [← hwA]; exact Mod.alloc _ _ _
  have hA := h.later hmA
  have HB := Lib.hid (sdbody_at hA.sd hF k hku (by rw [hbe]; exact hbd) q hq)
  rw [hbe] at HB
  have c0 := hA.blk.cell 0 rfl
  have HA := Lib.hid hA
  have HMA := Lib.hid hmA
  have HGA := Lib.hid hgA
  have HG := Lib.hid hg
  clear h hA hmA hgA hbe hq
  go_enter Try.func44, Try.ntmps44
  go_upto_region 1 with fail
  (try rw [hwA])
  (try rw [hg])
  clear hwA hg
  go_wp2_with fail
  refine HB.out.mono ?_
  rintro e w1 ⟨v, rfl, hf, ⟨a', c', rfl⟩, hm⟩
  have h1 := HA.out.later hm
  have c1 := h1.blk.cell 1 rfl
  have c2 := h1.blk.cell 2 rfl
  have hg1 := HGA.out.keep hm (fun e => e)
  have gc0 := hg1.cell 0 rfl
  have gf0 := hg1.free 0
  have gc1 := hg1.cell 1 rfl
  have gf1 := hg1.free 1
  have gc2 := hg1.cell 2 rfl
  have gf2 := hg1.free 2
  have gc3 := hg1.cell 3 rfl
  have gf3 := hg1.free 3
  have gc4 := hg1.cell 4 rfl
  have gf4 := hg1.free 4
  have gc5 := hg1.cell 5 rfl
  have gf5 := hg1.free 5
  have lg := hg1.lt
  have HF := Lib.hid hf
  have HG1 := Lib.hid hg1
  have HM1 := Lib.hid (HMA.out.of2 hm)
  have HN := Lib.hid (fun W (m : Mod (fun _ => False) w1 W) => tknext_any W kp kr _ _ _ (h1.later m).tk)
  clear h1 hf hg1 hm HB HA c0
  go_upto_region 2 with fail
  go_region_law (go_simp; go_at_call 40; refine (HN.out _ (Mod.drew _ _)).mono ?_; rintro e w' ⟨rfl, rfl⟩)
  all_goals go_wp2_with fail
  all_goals (
    have b2 := ((((((HG1.out.set 0 (.int .i64 conn)).set 1 (.int .i64 1)).set 2 (.int .i64 q)).set 3 (.int .i64 (x.N : Int))).set 4 (.int .i64 0)).set 5 (.slice a' (x.bs[k]).length c')).drew
    have hs := Mod.set6 w1 g (.int .i64 conn) (.int .i64 1) (.int .i64 q) (.int .i64 (x.N : Int)) (.int .i64 0) (.slice a' (x.bs[k]).length c')
    refine bodyPost_ret (results_cell_row rfl _ _ g 40 #[.int .i64 conn, .int .i64 1, .int .i64 q, .int .i64 (x.N : Int), .int .i64 0, .slice a' (x.bs[k]).length c'] (0, 0) _ rfl b2 Try.underlying40 rfl (by kernel_rfl)) rfl ?_
    have hsz := HMA.out.size
    have hgz := HG.out
    exact ⟨_, rfl, Own.base (Own.keep HF.out hs (fun j hj e => (TyB.own HF.out hj).ne (TyB.blk HG1.out) (by decide) e)) hsz, ⟨_, _, rfl⟩, HM1.out.old hs (fun j e => by omega)⟩)
end
end Go.Proofs.Ytdahoecejnnjkaa
