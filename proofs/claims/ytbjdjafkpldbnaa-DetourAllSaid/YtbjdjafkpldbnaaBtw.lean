/- dist.Between, the reference's, and nil turns: by contract. -/
import Derived.Test.YtbjdjafkpldbnaaDistT
import Derived.Test.YtbjdjafkpldbnaaRDistT
namespace Go.Proofs.Ytbjdjafkpldbnaa
open Go.RowKit Mile
set_option maxRecDepth 100000
/-- How far it is from an edge to a node; -1: no way there, or one is none. -/
def Btw (G : GD) (hm : May G) (v : Int) (cl : List Bool) (ev : Int) (x : Int) : Prop :=
  (((0 ≤ v ∧ v < (G.N.length : Int)) ∧ (0 ≤ ev ∧ ev < (G.E.length : Int))) ∧ ∃ d, Fix (webTo G hm v cl) d ∧ x = dAt d ev.toNat) ∨ (¬ ((0 ≤ v ∧ v < (G.N.length : Int)) ∧ (0 ≤ ev ∧ ev < (G.E.length : Int))) ∧ x = -1)
theorem Btw.uniq {G : GD} {hm : May G} {v : Int} {cl : List Bool} {ev x y : Int} (h : Btw G hm v cl ev x) (k : Btw G hm v cl ev y) : x = y := by
  rcases h with ⟨h1, d, h2, h3⟩ | ⟨h1, h2⟩ <;> rcases k with ⟨k1, d', k2, k3⟩ | ⟨k1, k2⟩
  · rw [h3, k3, h2.uniq k2]
  · exact absurd h1 k1
  · exact absurd k1 h1
  · rw [h2, k2]
theorem Btw.low {G : GD} {hm : May G} {v : Int} {cl : List Bool} {ev x : Int} (h : Btw G hm v cl ev x) : -1 ≤ x := by
  rcases h with ⟨h1, d, h2, h3⟩ | ⟨h1, h2⟩
  · rw [h3]; exact h2.low _
  · omega
def BtwP (G : GD) (hm : May G) (v : Int) (cl : List Bool) (ev : Int) (w : World) (e : Ending) (w' : World) : Prop :=
  ∃ x, Btw G hm v cl ev x ∧ e = .returned (.tuple #[.int .i64 (if x = -1 then 0 else x), .bool (decide (x ≠ -1))]) ∧ Mod (fun _ => False) w w'
def RBtwP (G : GD) (hm : May G) (v : Int) (cl : List Bool) (ev : Int) (w : World) (e : Ending) (w' : World) : Prop :=
  ∃ x, Btw G hm v cl ev x ∧ e = .returned (.int .i64 x) ∧ Mod (fun _ => False) w w'
theorem dto_nil (w : World) (v : Int) (x : Option Addr) (n c : Nat) : Calls Try.prog 31 #[.pointer none, .int .i64 v, .slice x n c] w fun e w' => e = .returned (.slice none 0 0) ∧ Mod (fun _ => False) w w' := by
  refine calls_of_rf Try.func31 rfl ?_
  simp only [Try.ntmps31, List.size_toArray, List.length_cons, List.length_nil, Nat.reduceAdd, Nat.reduceSub, Array.replicate_succ, Array.replicate_zero, List.push_toArray, List.append_toArray, List.nil_append, List.cons_append]
  go_wp2_with fail
  (try simp only [Exit.inBlock, Exit.then])
  refine rfPost_ret (results_tmp rfl _ _ _) rfl ?_
  exact ⟨rfl, ((Mod.refl _ w).thenAlloc _).thenAlloc _⟩
set_option maxHeartbeats 4000000 in
theorem r4btw_any (G : GD) (hm : May G) (w : World) (a1 : Option Addr) (n1 d1 : Nat) (a2 : Option Addr) (n2 d2 : Nat) (a3 : Option Addr) (n3 d3 : Nat) (h : GV w a1 n1 d1 a2 n2 d2 a3 n3 d3 G) (ev v : Int) (a : Option Addr) (n c : Nat) (cl : List Bool) (hn : cl.length = n) (hr : Rd w 1 (.slice a n c) n (cl.map Value.bool)) :
    Calls Try.prog 12 #[.agg #[.slice a1 n1 d1, .slice a2 n2 d2, .slice a3 n3 d3], .int .i64 ev, .int .i64 v, .slice a n c] w (RBtwP G hm v cl ev w) := by
  obtain ⟨iI, hiI, hzI, hsI, hbI⟩ := info_parts GR.infoI
  have hes : n2 ≤ 512 := by rw [← h.e]; exact hm.1.2.1
  have hns : n1 ≤ 256 := by rw [← h.n]; exact hm.1.1.2
  obtain ⟨bx, hbx⟩ : ∃ b, w.heap.size = b := ⟨_, rfl⟩
  obtain ⟨w0, hw0⟩ : ∃ W, w.alloc (.cells #[.slice a1 n1 d1, .slice a2 n2 d2, .slice a3 n3 d3] 28) = W := ⟨_, rfl⟩
  have hB : Blk w0 bx 28 [.slice a1 n1 d1, .slice a2 n2 d2, .slice a3 n3 d3] := by rw [← hw0, ← hbx]; exact Blk.new _ _ [.slice a1 n1 d1, .slice a2 n2 d2, .slice a3 n3 d3]
  have hm0 : Mod (fun _ => False) w w0 := by rw [← hw0]; exact Mod.alloc _ _ _
  have HG := Lib.hid (Ev.gv (h.keep hm0))
  have HR := Lib.hid (Ev.rd (hr.keep hm0 (fun _ _ e => e)))
  have HN := Lib.hid hn
  have HB := Lib.hid (Ev.blk hB)
  have HM0 := Lib.hid hm0
  have q0 := hB.cell 0 rfl
  have q1 := hB.cell 1 rfl
  have q2 := hB.cell 2 rfl
  clear h hn hr hB hm0
  have fin : ∀ wz : World, Mod (fun _ => False) w0 wz → Mod (fun _ => False) w wz := fun _ k => HM0.out.of2 k
  have FIN := Lib.hid fin
  clear fin
  go_enter Try.func12, Try.ntmps12
  go_upto_region 1 with fail
  try rw [hw0]
  try rw [hbx]
  clear hw0 hbx
  go_wp2_with fail
  refine (r4edge_any G w0 a1 n1 d1 a2 n2 d2 a3 n3 d3 HG.out.now (by omega) ev).mono ?_
  rintro e w1 ⟨rfl, hm1⟩
  have HM1 := Lib.hid hm1
  clear q0 q1 q2 hm1
  have hb1 := HB.out.at HM1.out
  have q0 := hb1.cell 0 rfl
  have q1 := hb1.cell 1 rfl
  have q2 := hb1.cell 2 rfl
  clear hb1
  by_cases he : 0 ≤ ev ∧ ev < (G.E.length : Int)
  · rw [decide_eq_true he]
    go_wp2_with fail
    refine (r4node_any G w1 a1 n1 d1 a2 n2 d2 a3 n3 d3 (HG.out.at HM1.out) (by omega) v).mono ?_
    rintro e w2 ⟨rfl, hm2⟩
    have HM2 := Lib.hid (HM1.out.of2 hm2)
    clear q0 q1 q2 hm2
    have hb1 := HB.out.at HM2.out
    have q0 := hb1.cell 0 rfl
    have q1 := hb1.cell 1 rfl
    have q2 := hb1.cell 2 rfl
    clear hb1
    by_cases hv : 0 ≤ v ∧ v < (G.N.length : Int)
    · rw [decide_eq_true hv]
      have HT := Lib.hid (r4to_any G hm w2 a1 n1 d1 a2 n2 d2 a3 n3 d3 (HG.out.at HM2.out) v a n c cl HN.out (HR.out.at HM2.out))
      obtain ⟨k, rfl⟩ := Int.eq_ofNat_of_zero_le he.1
      have hk : k < G.E.length := by omega
      have HV := Lib.hid hv
      clear he hv
      go_wp2_with fail
      refine HT.out.mono ?_
      rintro e w3 hp
      rcases hp with ⟨_, x, rfl, ⟨rb, d, rfl, ho, hf⟩, hM⟩ | ⟨hv, _⟩
      · have HM3 := Lib.hid (HM2.out.of2 hM)
        have HF := Lib.hid hf
        have hx : (webTo G hm v cl).m = G.E.length := rfl
        rw [hx] at ho ⊢
        have hix := fun wx => own_ix iI hiI hsI rb G.E.length k hk wx
        have q9 := own_at ho k hk
        obtain ⟨x, hx⟩ : ∃ x, dAt d k = x := ⟨_, rfl⟩
        rw [hx] at q9
        have HB := Lib.hid (show Btw G hm v cl (k : Int) x from .inl ⟨⟨HV.out, by omega⟩, d, HF.out, by rw [← hx]; rfl⟩)
        clear hM hf ho hx
        go_wp2_with fail
        go_ret
        exact ⟨x, HB.out, rfl, FIN.out _ HM3.out⟩
      · exact absurd HV.out hv
    · rw [decide_eq_false hv]
      have HB := Lib.hid (show Btw G hm v cl ev (-1) from .inr ⟨fun h => hv h.1, rfl⟩)
      clear hv he
      go_wp2_with fail
      go_ret
      exact ⟨-1, HB.out, rfl, FIN.out _ HM2.out⟩
  · rw [decide_eq_false he]
    have HB := Lib.hid (show Btw G hm v cl ev (-1) from .inr ⟨fun h => he h.2, rfl⟩)
    clear he
    go_wp2_with fail
    go_ret
    exact ⟨-1, HB.out, rfl, FIN.out _ HM1.out⟩
end Go.Proofs.Ytbjdjafkpldbnaa
