/- Contracts of what a graph tells: nodes, edges, rows. -/
import Derived.Test.YtbjdjafkpldbnaaKGr
import Derived.Laws.ResultCell
namespace Mile
open Go Go.RowKit
/-- A struct that is told out of its variable's memory, and one more. -/
theorem results_row_tmp {P : Program} {fn : Func} {p u : Tmp} {ty : TypeId} (h : fn.results = #[.cell p ty, .tmp u]) (tmps : Array Value) (w : World) (g : Nat) (t : TypeId) (cs : Array Value) (fr : Nat × Nat) (d : TypeDesc)
    (hp : tmps.getD p undef = .pointer (some ⟨g, 0, none⟩)) (hg : w.heap[g]? = some (.cells cs t fr))
    (hu : P.underlying ty = some d) (hd : (match d with | .struct _ | .array _ _ => true | _ => false) = true) (hi : (P.info? ty).map (·.size) = some cs.size) :
    (results fn tmps).run P w = .ok (.tuple #[.agg cs, tmps.getD u undef]) w := by
  rw [results_cell_tmp h, hp]
  simp [asAddr, run_loadVar_row w g t ty cs fr d hg hu hd hi]
end Mile
namespace Go.Proofs.Ytbjdjafkpldbnaa
open Go.RowKit Mile
set_option maxRecDepth 100000

def nAt (G : GD) (i : Int) : P2 := G.N.getD i.toNat (0, 0)
theorem nAt_eq (G : GD) (i : Nat) (h : i < G.N.length) : nAt G (i : Int) = G.N[i] := by
  unfold nAt; simp [List.getD, h]

def NodeP (G : GD) (i : Int) (w : World) (e : Ending) (w' : World) : Prop := e = .returned (.tuple #[.agg #[.int .i64 (if 0 ≤ i ∧ i < G.N.length then nAt G i else (0, 0)).1, .int .i64 (if 0 ≤ i ∧ i < G.N.length then nAt G i else (0, 0)).2], .bool (decide (0 ≤ i ∧ i < G.N.length))]) ∧ Mod (fun _ => False) w w'
set_option maxHeartbeats 2000000 in
theorem node_any (p B C : Nat) (w : World) (G : GD) (h : GO w p B C G) (v : Int) : Calls Try.prog 56 #[.pointer (some ⟨p, 0, none⟩), .int .i64 v] w (NodeP G v w) := by
  obtain ⟨iN, hiN, hzN, hsN, hbN⟩ := info_parts GR.infoN
  by_cases h1 : 0 ≤ v
  · by_cases h2 : v < G.N.length
    · unfold NodeP
      rw [if_pos ⟨h1, h2⟩]
      obtain ⟨k, rfl⟩ := Int.eq_ofNat_of_zero_le h1
      have hk : k < G.N.length := by omega
      rw [nAt_eq G k hk]
      have H0 := Lib.hid h
      obtain ⟨⟨a1, n1, d1, a2, n2, d2, a3, n3, d3, a4, n4, d4, a5, n5, d5, a6, n6, d6, a7, n7, d7, hb, hv, _⟩, _⟩ := h
      have c0 := hb.cell 0 rfl
      have ltp := hb.lt
      have hn := hv.n
      have hr := hv.rn
      obtain ⟨b, o, hpl, e1, e2⟩ := rd2 hr k hk
      have hix := fun wx => run_indexS (P := Try.prog) wx 24 78 iN 2 Try.underlying24 hiN hsN a1 n1 d1 k (by omega) (hr.some_ (by omega))
      rw [hpl] at hix
      have d2 : decide ((G.N.length : Int) ≤ (k : Int)) = false := by simp; omega
      have d3 : decide (G.N.length ≤ k) = false := by simp; omega
      obtain ⟨x, hx⟩ : ∃ x, G.N[k].1 = x := ⟨_, rfl⟩
      obtain ⟨y, hy⟩ : ∃ y, G.N[k].2 = y := ⟨_, rfl⟩
      rw [hx] at e1 ⊢
      rw [hy] at e2 ⊢
      have dd : decide ((0 : Int) ≤ (k : Int) ∧ (k : Int) < G.N.length) = true := by simp; exact hk
      rw [dd]
      clear hb hv hr hpl hx hy dd
      have ltb : b < w.heap.size := World.block_lt_of_cell? _ _ e1
      have hA := Mod.alloc (fun _ => False) w (.cells #[.int .i64 0, .int .i64 0] 78)
      have hg := (H0.out.keep hA (fun _ _ _ e => e))
      have HG := Lib.hid hg
      clear hg
      go_enter Try.func56, Try.ntmps56
      go_wp2_with fail
      refine (nodes_any p B C _ G HG.out).mono ?_
      rintro e w' ⟨rfl, hw'⟩
      rw [← hw']
      clear hw'
      go_wp2_with fail
      have b2 := Blk.new w 78 [.int .i64 x, .int .i64 y]
      (try simp only [Exit.inBlock, Exit.then])
      refine bodyPost_ret (results_row_tmp rfl _ _ w.heap.size 78 #[.int .i64 x, .int .i64 y] (0, 0) _ rfl b2 Try.underlying78 rfl (by kernel_rfl)) rfl ?_
      exact ⟨rfl, Mod.alloc _ w _⟩
    · unfold NodeP
      have hne : ¬ (0 ≤ v ∧ v < G.N.length) := by omega
      rw [if_neg hne, show decide (0 ≤ v ∧ v < G.N.length) = false from decide_eq_false hne]
      clear hne
      have d2 : decide ((G.N.length : Int) ≤ v) = true := by simp; omega
      have HG := Lib.hid (h.keep (Mod.alloc (fun _ => False) w (.cells #[.int .i64 0, .int .i64 0] 78)) (fun _ _ _ e => e))
      clear h
      go_enter Try.func56, Try.ntmps56
      go_wp2_with fail
      refine (nodes_any p B C _ G HG.out).mono ?_
      rintro e w' ⟨rfl, hw'⟩
      rw [← hw']
      clear hw'
      go_wp2_with fail
      have b2 := Blk.new w 78 [.int .i64 0, .int .i64 0]
      (try simp only [Exit.inBlock, Exit.then])
      refine bodyPost_ret (results_row_tmp rfl _ _ w.heap.size 78 #[.int .i64 0, .int .i64 0] (0, 0) _ rfl b2 Try.underlying78 rfl (by kernel_rfl)) rfl ?_
      exact ⟨rfl, Mod.alloc _ w _⟩
  · unfold NodeP
    have hne : ¬ (0 ≤ v ∧ v < G.N.length) := by omega
    rw [if_neg hne, show decide (0 ≤ v ∧ v < G.N.length) = false from decide_eq_false hne]
    clear hne
    have HG := Lib.hid (h.keep (Mod.alloc (fun _ => False) w (.cells #[.int .i64 0, .int .i64 0] 78)) (fun _ _ _ e => e))
    clear h
    go_enter Try.func56, Try.ntmps56
    go_wp2_with fail
    have b2 := Blk.new w 78 [.int .i64 0, .int .i64 0]
    (try simp only [Exit.inBlock, Exit.then])
    refine bodyPost_ret (results_row_tmp rfl _ _ w.heap.size 78 #[.int .i64 0, .int .i64 0] (0, 0) _ rfl b2 Try.underlying78 rfl (by kernel_rfl)) rfl ?_
    exact ⟨rfl, Mod.alloc _ w _⟩
/-- What Edge tells. -/
def EdgeP (G : GD) (i : Int) (w : World) (e : Ending) (w' : World) : Prop := e = .returned (.tuple #[.agg #[.int .i64 (if 0 ≤ i ∧ i < G.E.length then eAt G i else (0, 0, 0)).1, .int .i64 (if 0 ≤ i ∧ i < G.E.length then eAt G i else (0, 0, 0)).2.1, .int .i64 (if 0 ≤ i ∧ i < G.E.length then eAt G i else (0, 0, 0)).2.2], .bool (decide (0 ≤ i ∧ i < G.E.length))]) ∧ Mod (fun _ => False) w w'
set_option maxHeartbeats 2000000 in
theorem edge_any (p B C : Nat) (w : World) (G : GD) (h : GO w p B C G) (v : Int) : Calls Try.prog 23 #[.pointer (some ⟨p, 0, none⟩), .int .i64 v] w (EdgeP G v w) := by
  obtain ⟨iN, hiN, hzN, hsN, hbN⟩ := info_parts GR.infoE
  by_cases h1 : 0 ≤ v
  · by_cases h2 : v < G.E.length
    · unfold EdgeP
      rw [if_pos ⟨h1, h2⟩]
      obtain ⟨k, rfl⟩ := Int.eq_ofNat_of_zero_le h1
      have hk : k < G.E.length := by omega
      rw [eAt_eq G k hk]
      have H0 := Lib.hid h
      obtain ⟨⟨a1, n1, d1, a2, n2, d2, a3, n3, d3, a4, n4, d4, a5, n5, d5, a6, n6, d6, a7, n7, d7, hb, hv, _⟩, _⟩ := h
      have c0 := hb.cell 1 rfl
      have ltp := hb.lt
      have hn := hv.e
      have hr := hv.re
      obtain ⟨b, o, hpl, e1, e2, e3⟩ := rd3 hr k hk
      have hix := fun wx => run_indexS (P := Try.prog) wx 25 43 iN 3 Try.underlying25 hiN hsN a2 n2 d2 k (by omega) (hr.some_ (by omega))
      rw [hpl] at hix
      have g2 : decide ((G.E.length : Int) ≤ (k : Int)) = false := by simp; omega
      have g3 : decide (G.E.length ≤ k) = false := by simp; omega
      obtain ⟨x, hx⟩ : ∃ x, G.E[k].1 = x := ⟨_, rfl⟩
      obtain ⟨y, hy⟩ : ∃ y, G.E[k].2.1 = y := ⟨_, rfl⟩
      obtain ⟨z, hz⟩ : ∃ z, G.E[k].2.2 = z := ⟨_, rfl⟩
      rw [hx] at e1 ⊢
      rw [hy] at e2 ⊢
      rw [hz] at e3 ⊢
      have dd : decide ((0 : Int) ≤ (k : Int) ∧ (k : Int) < G.E.length) = true := by simp; exact hk
      rw [dd]
      clear hb hv hr hpl hx hy hz dd
      have ltb : b < w.heap.size := World.block_lt_of_cell? _ _ e1
      have hA := Mod.alloc (fun _ => False) w (.cells #[.int .i64 0, .int .i64 0, .int .i64 0] 43)
      have hg := (H0.out.keep hA (fun _ _ _ e => e))
      have HG := Lib.hid hg
      clear hg
      go_enter Try.func23, Try.ntmps23
      go_wp2_with fail
      refine (edges_any p B C _ G HG.out).mono ?_
      rintro e w' ⟨rfl, hw'⟩
      rw [← hw']
      clear hw'
      go_wp2_with fail
      have b2 := Blk.new w 43 [.int .i64 x, .int .i64 y, .int .i64 z]
      (try simp only [Exit.inBlock, Exit.then])
      refine bodyPost_ret (results_row_tmp rfl _ _ w.heap.size 43 #[.int .i64 x, .int .i64 y, .int .i64 z] (0, 0) _ rfl b2 Try.underlying43 rfl (by kernel_rfl)) rfl ?_
      exact ⟨rfl, Mod.alloc _ w _⟩
    · unfold EdgeP
      have hne : ¬ (0 ≤ v ∧ v < G.E.length) := by omega
      rw [if_neg hne, show decide (0 ≤ v ∧ v < G.E.length) = false from decide_eq_false hne]
      clear hne
      have d2 : decide ((G.E.length : Int) ≤ v) = true := by simp; omega
      have HG := Lib.hid (h.keep (Mod.alloc (fun _ => False) w (.cells #[.int .i64 0, .int .i64 0, .int .i64 0] 43)) (fun _ _ _ e => e))
      clear h
      go_enter Try.func23, Try.ntmps23
      go_wp2_with fail
      refine (edges_any p B C _ G HG.out).mono ?_
      rintro e w' ⟨rfl, hw'⟩
      rw [← hw']
      clear hw'
      go_wp2_with fail
      have b2 := Blk.new w 43 [.int .i64 0, .int .i64 0, .int .i64 0]
      (try simp only [Exit.inBlock, Exit.then])
      refine bodyPost_ret (results_row_tmp rfl _ _ w.heap.size 43 #[.int .i64 0, .int .i64 0, .int .i64 0] (0, 0) _ rfl b2 Try.underlying43 rfl (by kernel_rfl)) rfl ?_
      exact ⟨rfl, Mod.alloc _ w _⟩
  · unfold EdgeP
    have hne : ¬ (0 ≤ v ∧ v < G.E.length) := by omega
    rw [if_neg hne, show decide (0 ≤ v ∧ v < G.E.length) = false from decide_eq_false hne]
    clear hne
    have HG := Lib.hid (h.keep (Mod.alloc (fun _ => False) w (.cells #[.int .i64 0, .int .i64 0, .int .i64 0] 43)) (fun _ _ _ e => e))
    clear h
    go_enter Try.func23, Try.ntmps23
    go_wp2_with fail
    have b2 := Blk.new w 43 [.int .i64 0, .int .i64 0, .int .i64 0]
    (try simp only [Exit.inBlock, Exit.then])
    refine bodyPost_ret (results_row_tmp rfl _ _ w.heap.size 43 #[.int .i64 0, .int .i64 0, .int .i64 0] (0, 0) _ rfl b2 Try.underlying43 rfl (by kernel_rfl)) rfl ?_
    exact ⟨rfl, Mod.alloc _ w _⟩
end Go.Proofs.Ytbjdjafkpldbnaa
