/- Graphs as plain lists: what may be; contracts of package graph's and the reference's looks at it. -/
import Derived.Test.YtdccpikddhpleaaRows
import Derived.Test.YtdccpikddhpleaaBase2
import Derived.Test.YtdccpikddhpleaaRegion
namespace Mile
open Go Go.RowKit

abbrev P2 := Int × Int
abbrev P3 := Int × Int × Int
def c2 (x : P2) : List Value := [.int .i64 x.1, .int .i64 x.2]
def c3 (x : P3) : List Value := [.int .i64 x.1, .int .i64 x.2.1, .int .i64 x.2.2]
theorem c2_len : ∀ l : List P2, (l.flatMap c2).length = l.length * 2
  | [] => rfl
  | x :: l => by rw [List.flatMap_cons, List.length_append, c2_len l, List.length_cons]; simp [c2]; omega
theorem c3_len : ∀ l : List P3, (l.flatMap c3).length = l.length * 3
  | [] => rfl
  | x :: l => by rw [List.flatMap_cons, List.length_append, c3_len l, List.length_cons]; simp [c3]; omega
theorem c2_at : ∀ (l : List P2) (i : Nat) (hi : i < l.length), (l.flatMap c2)[i * 2 + 0]? = some (.int .i64 l[i].1) ∧ (l.flatMap c2)[i * 2 + 1]? = some (.int .i64 l[i].2)
  | [], i, hi => by simp at hi
  | x :: l, 0, _ => by simp [c2]
  | x :: l, i + 1, hi => by
    have := c2_at l i (by simpa using hi)
    simp only [List.flatMap_cons, List.getElem_cons_succ]
    rw [show (i + 1) * 2 + 0 = 2 + (i * 2 + 0) by omega, show (i + 1) * 2 + 1 = 2 + (i * 2 + 1) by omega]
    rw [List.getElem?_append_right (by simp [c2]), List.getElem?_append_right (by simp [c2])]
    simpa [c2] using this
theorem c3_at : ∀ (l : List P3) (i : Nat) (hi : i < l.length), (l.flatMap c3)[i * 3 + 0]? = some (.int .i64 l[i].1) ∧ (l.flatMap c3)[i * 3 + 1]? = some (.int .i64 l[i].2.1) ∧ (l.flatMap c3)[i * 3 + 2]? = some (.int .i64 l[i].2.2)
  | [], i, hi => by simp at hi
  | x :: l, 0, _ => by simp [c3]
  | x :: l, i + 1, hi => by
    have := c3_at l i (by simpa using hi)
    simp only [List.flatMap_cons, List.getElem_cons_succ]
    rw [show (i + 1) * 3 + 0 = 3 + (i * 3 + 0) by omega, show (i + 1) * 3 + 1 = 3 + (i * 3 + 1) by omega, show (i + 1) * 3 + 2 = 3 + (i * 3 + 2) by omega]
    rw [List.getElem?_append_right (by simp [c3]), List.getElem?_append_right (by simp [c3]), List.getElem?_append_right (by simp [c3])]
    simpa [c3] using this

/-- Where element i of a row of pairs lies; its cells. -/
theorem rd2 {w : World} {n c : Nat} {a : Option Addr} {S : List P2} (h : Rd w 2 (.slice a n c) n (S.flatMap c2)) (i : Nat) (hi : i < S.length) :
    ∃ b o, elemA a i 2 = ⟨b, o, none⟩ ∧ w.cell? ⟨b, o, none⟩ = some (.int .i64 S[i].1) ∧ w.cell? ⟨b, o + 1, none⟩ = some (.int .i64 S[i].2) := by
  obtain ⟨k1, k2⟩ := c2_at S i hi
  have hn : n = S.length := by have := h.1; rw [c2_len] at this; omega
  obtain ⟨b, o, hp, _⟩ := h.place (j := i) (by omega)
  exact ⟨b, o, hp, by simpa using h.elemN hp 0 k1, h.elemN hp 1 k2⟩
theorem rd3 {w : World} {n c : Nat} {a : Option Addr} {S : List P3} (h : Rd w 3 (.slice a n c) n (S.flatMap c3)) (i : Nat) (hi : i < S.length) :
    ∃ b o, elemA a i 3 = ⟨b, o, none⟩ ∧ w.cell? ⟨b, o, none⟩ = some (.int .i64 S[i].1) ∧ w.cell? ⟨b, o + 1, none⟩ = some (.int .i64 S[i].2.1) ∧ w.cell? ⟨b, o + 2, none⟩ = some (.int .i64 S[i].2.2) := by
  obtain ⟨k1, k2, k3⟩ := c3_at S i hi
  have hn : n = S.length := by have := h.1; rw [c3_len] at this; omega
  obtain ⟨b, o, hp, _⟩ := h.place (j := i) (by omega)
  exact ⟨b, o, hp, by simpa using h.elemN hp 0 k1, h.elemN hp 1 k2, h.elemN hp 2 k3⟩

structure GD where
  N : List P2
  E : List P3
  B : List P2

/-- The value of a graph as it is handed over. -/
structure GV (w : World) (a1 : Option Addr) (n1 d1 : Nat) (a2 : Option Addr) (n2 d2 : Nat) (a3 : Option Addr) (n3 d3 : Nat) (G : GD) : Prop where
  n : G.N.length = n1
  e : G.E.length = n2
  b : G.B.length = n3
  rn : Rd w 2 (.slice a1 n1 d1) n1 (G.N.flatMap c2)
  re : Rd w 3 (.slice a2 n2 d2) n2 (G.E.flatMap c3)
  rb : Rd w 2 (.slice a3 n3 d3) n3 (G.B.flatMap c2)

def NodeOk (x : P2) : Prop := (0 ≤ x.1 ∧ x.1 ≤ 4095) ∧ (0 ≤ x.2 ∧ x.2 ≤ 4095)
def EdgeOk (n : Nat) (x : P3) : Prop := (0 ≤ x.1 ∧ x.1 < n) ∧ (0 ≤ x.2.1 ∧ x.2.1 < n) ∧ (1 ≤ x.2.2 ∧ x.2.2 ≤ 65535)
def blt (x y : P2) : Prop := x.1 < y.1 ∨ (x.1 = y.1 ∧ x.2 < y.2)
def eAt (G : GD) (i : Int) : P3 := G.E.getD i.toNat (0, 0, 0)
def BanOk (G : GD) (x : P2) : Prop := (0 ≤ x.1 ∧ x.1 < G.E.length) ∧ (0 ≤ x.2 ∧ x.2 < G.E.length) ∧ (eAt G x.1).2.1 = (eAt G x.2).1
def SizesOk (G : GD) : Prop := (1 ≤ G.N.length ∧ G.N.length ≤ 256) ∧ G.E.length ≤ 512 ∧ G.B.length ≤ 1024
def NodesOk (G : GD) : Prop := ∀ x ∈ G.N, NodeOk x
def EdgesOk (G : GD) : Prop := ∀ x ∈ G.E, EdgeOk G.N.length x
def BansOk (G : GD) : Prop := ∀ i (h : i < G.B.length), BanOk G G.B[i] ∧ (∀ _ : 0 < i, blt (G.B[i - 1]'(by omega)) G.B[i])
def May (G : GD) : Prop := SizesOk G ∧ NodesOk G ∧ EdgesOk G ∧ BansOk G
end Mile
namespace Go.Proofs.Ytdccpikddhpleaa
open Go.RowKit Mile
set_option maxRecDepth 100000

theorem GR.infoN : (Try.prog.info? 50).map (fun i => (i.zero, i.size, i.bytes)) = some (some (.agg #[.int .i64 0, .int .i64 0]), 2, 16) := by kernel_rfl
theorem GR.infoE : (Try.prog.info? 52).map (fun i => (i.zero, i.size, i.bytes)) = some (some (.agg #[.int .i64 0, .int .i64 0, .int .i64 0]), 3, 24) := by kernel_rfl
theorem GR.infoB : (Try.prog.info? 63).map (fun i => (i.zero, i.size, i.bytes)) = some (some (.agg #[.int .i64 0, .int .i64 0]), 2, 16) := by kernel_rfl
theorem GR.infoI : (Try.prog.info? 3).map (fun i => (i.zero, i.size, i.bytes)) = some (some (.int .i64 0), 1, 8) := by kernel_rfl

theorem within_any (n a b : Int) (w : World) : Calls Try.prog 63 #[.int .i64 n, .int .i64 a, .int .i64 b] w fun e w' => e = .returned (.bool (decide (a ≤ n ∧ n ≤ b))) ∧ w = w' := by
  by_cases h1 : a ≤ n <;> by_cases h2 : n ≤ b <;>
  · go_enter Try.func63, Try.ntmps63
    go_wp2
    go_ret
    exact ⟨by simp [h1, h2], rfl⟩
set_option maxHeartbeats 2000000 in
theorem nodesFit_any (G : GD) (w : World) (a1 : Option Addr) (n1 d1 : Nat) (a2 : Option Addr) (n2 d2 : Nat) (a3 : Option Addr) (n3 d3 : Nat) (h : GV w a1 n1 d1 a2 n2 d2 a3 n3 d3 G) (hs : n1 ≤ 256) :
    Calls Try.prog 53 #[.agg #[.slice a1 n1 d1, .slice a2 n2 d2, .slice a3 n3 d3]] w fun e w' => ∃ r : Bool, e = .returned (.bool r) ∧ (r = true ↔ NodesOk G) ∧ Mod (fun _ => False) w w' := by
  obtain ⟨iN, hiN, hzN, hsN, hbN⟩ := info_parts GR.infoN
  obtain ⟨g1, _, _, hr, _, _⟩ := h
  have HG := Lib.hid g1
  clear g1
  go_enter Try.func53, Try.ntmps53
  go_wp2_with fail
  go_loopw [4, 8] (fun _ i wr => ∃ j : Nat, j ≤ n1 ∧ i = .int .i64 j ∧ Mod (fun _ => False) w wr ∧ ∀ k (hk : k < G.N.length), k < j → NodeOk G.N[k]) (fun _ i _ => n1 - (intOf i).toNat)
  case atStart => exact ⟨0, by omega, rfl, (Mod.refl _ _).thenAlloc _, fun k _ h => by omega⟩
  case round =>
    obtain ⟨j, hj, rfl, hM, hall⟩ := hrel
    have HA := Lib.hid hall
    clear hall
    by_cases hlt : j < n1
    · have hjl : j < G.N.length := by rw [HG.out]; exact hlt
      obtain ⟨b, o, hpl, e1, e2⟩ := rd2 (hr.keepA hM (fun _ _ e => e.elim)) j hjl
      have hix := fun wx => run_indexS (P := Try.prog) wx 22 50 iN 2 Try.underlying22 hiN hsN a1 n1 d1 j hlt (hr.some_ (by omega))
      rw [hpl] at hix
      have hok : Hid (NodeOk G.N[j] ↔ ((0 ≤ G.N[j].1 ∧ G.N[j].1 ≤ 4095) ∧ (0 ≤ G.N[j].2 ∧ G.N[j].2 ≤ 4095))) := Lib.hid Iff.rfl
      obtain ⟨x, hx⟩ : ∃ x, G.N[j].1 = x := ⟨_, rfl⟩
      obtain ⟨y, hy⟩ : ∃ y, G.N[j].2 = y := ⟨_, rfl⟩
      rw [hx, hy] at hok
      rw [hx] at e1
      rw [hy] at e2
      clear hx hy hpl
      by_cases c1 : 0 ≤ x ∧ x ≤ 4095
      · have d1 : decide (0 ≤ x ∧ x ≤ 4095) = true := by simpa using c1
        by_cases c2 : 0 ≤ y ∧ y ≤ 4095
        · have d2 : decide (0 ≤ y ∧ y ≤ 4095) = true := by simpa using c2
          go_wp2_with (first | (go_at_call 63; refine (within_any _ _ _ _).mono ?_; rintro e w' ⟨rfl, rfl⟩; rw [d1]) | (go_at_call 63; refine (within_any _ _ _ _).mono ?_; rintro e w' ⟨rfl, rfl⟩; rw [d2]))
          go_roundw
          case rel =>
            refine ⟨j + 1, hlt, by go_num, ?_, fun k hk hkj => ?_⟩
            · exact hM.thenAlloc _
            · by_cases e : k = j
              · subst e; exact hok.out.2 ⟨c1, c2⟩
              · exact HA.out k hk (by omega)
          case measure => simp [intOf]; omega
        · have d2 : decide (0 ≤ y ∧ y ≤ 4095) = false := by simpa using c2
          go_wp2_with (first | (go_at_call 63; refine (within_any _ _ _ _).mono ?_; rintro e w' ⟨rfl, rfl⟩; rw [d1]) | (go_at_call 63; refine (within_any _ _ _ _).mono ?_; rintro e w' ⟨rfl, rfl⟩; rw [d2]))
          go_ret
          exact ⟨false, rfl, ⟨fun h => (by cases h), fun h => absurd (hok.out.1 (h _ (List.getElem_mem hjl))).2 c2⟩, hM.thenAlloc _⟩
      · have d1 : decide (0 ≤ x ∧ x ≤ 4095) = false := by simpa using c1
        go_wp2_with (go_at_call 63; refine (within_any _ _ _ _).mono ?_; rintro e w' ⟨rfl, rfl⟩; rw [d1])
        go_ret
        exact ⟨false, rfl, ⟨fun h => (by cases h), fun h => absurd (hok.out.1 (h _ (List.getElem_mem hjl))).1 c1⟩, hM.thenAlloc _⟩
    · obtain rfl : j = n1 := by omega
      go_wp2_with fail
      go_ret
      exact ⟨true, rfl, ⟨fun _ x hx => by obtain ⟨i, hi, rfl⟩ := List.getElem_of_mem hx; exact HA.out i hi (by rw [← HG.out]; exact hi), fun _ => rfl⟩, hM⟩

set_option maxHeartbeats 2000000 in
theorem edgesFit_any (G : GD) (w : World) (a1 : Option Addr) (n1 d1 : Nat) (a2 : Option Addr) (n2 d2 : Nat) (a3 : Option Addr) (n3 d3 : Nat) (h : GV w a1 n1 d1 a2 n2 d2 a3 n3 d3 G) (hs : n1 ≤ 256) (hs2 : n2 ≤ 512) :
    Calls Try.prog 54 #[.agg #[.slice a1 n1 d1, .slice a2 n2 d2, .slice a3 n3 d3]] w fun e w' => ∃ r : Bool, e = .returned (.bool r) ∧ (r = true ↔ EdgesOk G) ∧ Mod (fun _ => False) w w' := by
  obtain ⟨iN, hiN, hzN, hsN, hbN⟩ := info_parts GR.infoE
  obtain ⟨g0, g1, _, _, hr, _⟩ := h
  have HG := Lib.hid g1
  have HN := Lib.hid g0
  clear g1 g0
  go_enter Try.func54, Try.ntmps54
  go_wp2_with fail
  go_loopw [5, 13] (fun _ i wr => ∃ j : Nat, j ≤ n2 ∧ i = .int .i64 j ∧ Mod (fun _ => False) w wr ∧ ∀ k (hk : k < G.E.length), k < j → EdgeOk G.N.length G.E[k]) (fun _ i _ => n2 - (intOf i).toNat)
  case atStart => exact ⟨0, by omega, rfl, (Mod.refl _ _).thenAlloc _, fun k _ h => by omega⟩
  case round =>
    obtain ⟨j, hj, rfl, hM, hall⟩ := hrel
    have HA := Lib.hid hall
    clear hall
    by_cases hlt : j < n2
    · have hjl : j < G.E.length := by rw [HG.out]; exact hlt
      obtain ⟨b, o, hpl, e1, e2, e3⟩ := rd3 (hr.keepA hM (fun _ _ e => e.elim)) j hjl
      have hix := fun wx => run_indexS (P := Try.prog) wx 23 52 iN 3 Try.underlying23 hiN hsN a2 n2 d2 j hlt (hr.some_ (by omega))
      rw [hpl] at hix
      have hok : Hid (EdgeOk G.N.length G.E[j] ↔ ((0 ≤ G.E[j].1 ∧ G.E[j].1 ≤ (n1 : Int) - 1) ∧ (0 ≤ G.E[j].2.1 ∧ G.E[j].2.1 ≤ (n1 : Int) - 1) ∧ (1 ≤ G.E[j].2.2 ∧ G.E[j].2.2 ≤ 65535))) := Lib.hid (by unfold EdgeOk; rw [HN.out]; omega)
      obtain ⟨x, hx⟩ : ∃ x, G.E[j].1 = x := ⟨_, rfl⟩
      obtain ⟨y, hy⟩ : ∃ y, G.E[j].2.1 = y := ⟨_, rfl⟩
      obtain ⟨z, hz⟩ : ∃ z, G.E[j].2.2 = z := ⟨_, rfl⟩
      rw [hx, hy, hz] at hok
      rw [hx] at e1
      rw [hy] at e2
      rw [hz] at e3
      clear hx hy hz hpl
      by_cases c1 : 0 ≤ x ∧ x ≤ (n1 : Int) - 1
      · have d1 : decide (0 ≤ x ∧ x ≤ (n1 : Int) - 1) = true := by simpa using c1
        by_cases c2 : 0 ≤ y ∧ y ≤ (n1 : Int) - 1
        · have d2 : decide (0 ≤ y ∧ y ≤ (n1 : Int) - 1) = true := by simpa using c2
          by_cases c3 : 1 ≤ z ∧ z ≤ 65535
          · have d3 : decide (1 ≤ z ∧ z ≤ 65535) = true := by simpa using c3
            go_wp2_with (go_at_call 63; refine (within_any _ _ _ _).mono ?_; rintro e w' ⟨rfl, rfl⟩; first | rw [d1] | rw [d2] | rw [d3])
            go_roundw
            case rel =>
              refine ⟨j + 1, hlt, by go_num, hM.thenAlloc _, fun k hk hkj => ?_⟩
              by_cases e : k = j
              · subst e; exact hok.out.2 ⟨c1, c2, c3⟩
              · exact HA.out k hk (by omega)
            case measure => simp [intOf]; omega
          · have d3 : decide (1 ≤ z ∧ z ≤ 65535) = false := by simpa using c3
            go_wp2_with (go_at_call 63; refine (within_any _ _ _ _).mono ?_; rintro e w' ⟨rfl, rfl⟩; first | rw [d1] | rw [d2] | rw [d3])
            go_ret
            exact ⟨false, rfl, ⟨fun h => (by cases h), fun h => absurd (hok.out.1 (h _ (List.getElem_mem hjl))).2.2 c3⟩, hM.thenAlloc _⟩
        · have d2 : decide (0 ≤ y ∧ y ≤ (n1 : Int) - 1) = false := by simpa using c2
          go_wp2_with (go_at_call 63; refine (within_any _ _ _ _).mono ?_; rintro e w' ⟨rfl, rfl⟩; first | rw [d1] | rw [d2])
          go_ret
          exact ⟨false, rfl, ⟨fun h => (by cases h), fun h => absurd (hok.out.1 (h _ (List.getElem_mem hjl))).2.1 c2⟩, hM.thenAlloc _⟩
      · have d1 : decide (0 ≤ x ∧ x ≤ (n1 : Int) - 1) = false := by simpa using c1
        go_wp2_with (go_at_call 63; refine (within_any _ _ _ _).mono ?_; rintro e w' ⟨rfl, rfl⟩; rw [d1])
        go_ret
        exact ⟨false, rfl, ⟨fun h => (by cases h), fun h => absurd (hok.out.1 (h _ (List.getElem_mem hjl))).1 c1⟩, hM.thenAlloc _⟩
    · obtain rfl : j = n2 := by omega
      go_wp2_with fail
      go_ret
      exact ⟨true, rfl, ⟨fun _ x hx => by obtain ⟨i, hi, rfl⟩ := List.getElem_of_mem hx; exact HA.out i hi (by rw [← HG.out]; exact hi), fun _ => rfl⟩, hM⟩

theorem isNaN_any (x : Int) (w : World) : Calls Try.prog 67 #[.int .i64 x] w fun e w' => e = .returned (.bool false) ∧ w = w' := by
  have d : (x == x) = true := by simp
  go_enter Try.func67, Try.ntmps67
  go_wp2
  go_ret
  exact ⟨by simp, rfl⟩
def cmpI (x y : Int) : Int := if x < y then -1 else if y < x then 1 else 0
theorem compareI_any (x y : Int) (w : World) : Calls Try.prog 66 #[.int .i64 x, .int .i64 y] w fun e w' => e = .returned (.int .i64 (cmpI x y)) ∧ w = w' := by
  by_cases h1 : x < y
  · go_enter Try.func66, Try.ntmps66
    go_wp2_with (go_at_call 67; refine (isNaN_any _ _).mono ?_; rintro e w' ⟨rfl, rfl⟩)
    go_ret
    exact ⟨by simp [cmpI, h1], rfl⟩
  · by_cases h2 : y < x
    · go_enter Try.func66, Try.ntmps66
      go_wp2_with (go_at_call 67; refine (isNaN_any _ _).mono ?_; rintro e w' ⟨rfl, rfl⟩)
      go_ret
      exact ⟨by simp [cmpI, h1, h2], rfl⟩
    · have e : cmpI x y = 0 := by unfold cmpI; rw [if_neg h1, if_neg h2]
      rw [e]
      clear e
      go_enter Try.func66, Try.ntmps66
      go_wp2_with (go_at_call 67; refine (isNaN_any _ _).mono ?_; rintro e w' ⟨rfl, rfl⟩)
      go_ret
      exact ⟨rfl, rfl⟩

/-- cmp.Or of two. -/
theorem or_any (x y : Int) (w : World) (a : Option Addr) (c : Nat) (hr : Rd w 1 (.slice a 2 c) 2 [.int .i64 x, .int .i64 y]) :
    Calls Try.prog 65 #[.slice a 2 c] w fun e w' => e = .returned (.int .i64 (if x = 0 then y else x)) ∧ w = w' := by
  obtain ⟨iN, hiN, hzN, hsN, hbN⟩ := info_parts GR.infoI
  have k0 := hr.elem (j := 0) rfl
  have k1 := hr.elem (j := 1) rfl
  have hix0 : ∀ wx, (Instr.indexAt 44 (.slice a 2 c) (.int .i64 0)).run Try.prog wx = .ok (.pointer (some (elemA a 0 1))) wx := fun wx => run_indexS (P := Try.prog) wx 44 3 iN 1 Try.underlying44 hiN hsN a 2 c 0 (by omega) (hr.some_ (by omega))
  have hix1 : ∀ wx, (Instr.indexAt 44 (.slice a 2 c) (.int .i64 1)).run Try.prog wx = .ok (.pointer (some (elemA a 1 1))) wx := fun wx => run_indexS (P := Try.prog) wx 44 3 iN 1 Try.underlying44 hiN hsN a 2 c 1 (by omega) (hr.some_ (by omega))
  go_enter Try.func65, Try.ntmps65
  go_wp2_with fail
  go_loopw [5, 8] (fun _ i wr => ∃ j : Nat, j ≤ 2 ∧ i = .int .i64 j ∧ wr = w ∧ (0 < j → x = 0) ∧ (1 < j → y = 0)) (fun _ i _ => 2 - (intOf i).toNat)
  case atStart => exact ⟨0, by omega, rfl, rfl, fun h => by omega, fun h => by omega⟩
  case round =>
    obtain ⟨j, hj, rfl, rfl, hx0, hy0⟩ := hrel
    rcases (show j = 0 ∨ j = 1 ∨ j = 2 by omega) with rfl | rfl | rfl
    · clear hx0 hy0 k1 hix1
      by_cases hx : x = 0
      · subst hx
        go_wp2_with fail
        go_roundw
        case rel => exact ⟨1, by omega, rfl, (by first | trivial | rfl), (by first | trivial | exact fun _ => rfl), (by first | trivial | exact fun h => by omega)⟩
        case measure => simp [intOf]
      · have d : (x == 0) = false := by rw [beq_eq_false_iff_ne]; exact hx
        go_wp2_with fail
        go_ret
        exact ⟨rfl, rfl⟩
    · have hx := hx0 (by omega)
      clear hx0 hy0 k0 hix0
      subst hx
      by_cases hy : y = 0
      · subst hy
        go_wp2_with fail
        go_roundw
        case rel => exact ⟨2, by omega, rfl, (by first | trivial | rfl), (by first | trivial | exact fun _ => rfl), (by first | trivial | exact fun _ => rfl)⟩
        case measure => simp [intOf]
      · have d : (y == 0) = false := by rw [beq_eq_false_iff_ne]; exact hy
        go_wp2_with fail
        go_ret
        exact ⟨rfl, rfl⟩
    · have hx := hx0 (by omega)
      have hy := hy0 (by omega)
      clear hx0 hy0 k0 hix0 k1 hix1
      subst hx hy
      go_wp2_with fail
      go_ret
      exact ⟨rfl, rfl⟩

/-- How bans are ordered. -/
def cmpB (x y : P2) : Int := if cmpI x.1 y.1 = 0 then cmpI x.2 y.2 else cmpI x.1 y.1
/-- What each operation of the statement leaves. -/
def cmpb_F (p q : Nat) (x1 x2 y1 y2 : Int) : List (Value → World → Prop) :=
  [IsV (.pointer (some ⟨p, 0, none⟩)),
   IsV (.int .i64 x1),
   IsV (.pointer (some ⟨q, 0, none⟩)),
   IsV (.int .i64 y1),
   IsV (.int .i64 (cmpI x1 y1)),
   IsV (.pointer (some ⟨p, 1, none⟩)),
   IsV (.int .i64 x2),
   IsV (.pointer (some ⟨q, 1, none⟩)),
   IsV (.int .i64 y2),
   IsV (.int .i64 (cmpI x2 y2)),
   (NewRow 2 [.int .i64 (cmpI x1 y1), .int .i64 (cmpI x2 y2)]),
   IsV (.int .i64 (cmpB (x1, x2) (y1, y2))),
   IsV (.int .i64 (cmpB (x1, x2) (y1, y2)))]
def cmpb_D : List (List Nat) := [[], [0], [], [2], [1, 3], [], [5], [], [7], [6, 8], [4, 9], [10], [11]]
set_option maxHeartbeats 2000000 in
theorem compareBans_any (x y : P2) (w : World) : Calls Try.prog 64 #[.agg #[.int .i64 x.1, .int .i64 x.2], .agg #[.int .i64 y.1, .int .i64 y.2]] w fun e w' => e = .returned (.int .i64 (cmpB x y)) ∧ Mod (fun _ => False) w w' := by
  obtain ⟨x1, x2⟩ := x
  obtain ⟨y1, y2⟩ := y
  go_enter Try.func64, Try.ntmps64
  go_wp2_with fail
  obtain ⟨W0, hW0⟩ : ∃ W0, (w.alloc (.cells #[.int .i64 x1, .int .i64 x2] 63)).alloc (.cells #[.int .i64 y1, .int .i64 y2] 63) = W0 := ⟨_, rfl⟩
  have hM0 : Mod (fun _ => False) w W0 := by rw [← hW0]; exact ((Mod.refl _ w).thenAlloc _).thenAlloc _
  obtain ⟨p, hp⟩ : ∃ p, w.heap.size = p := ⟨_, rfl⟩
  obtain ⟨q, hq⟩ : ∃ q, p + 1 = q := ⟨_, rfl⟩
  have HC : Hid (∀ W, Mod (fun _ => False) W0.drew W → W.cell? ⟨p, 0, none⟩ = some (.int .i64 x1) ∧ W.cell? ⟨p, 1, none⟩ = some (.int .i64 x2) ∧ W.cell? ⟨q, 0, none⟩ = some (.int .i64 y1) ∧ W.cell? ⟨q, 1, none⟩ = some (.int .i64 y2)) := Lib.hid fun W hm => by
    have hb1 : Blk W0 p 63 [.int .i64 x1, .int .i64 x2] := by
      rw [← hW0, ← hp]; exact (Blk.new w 63 [.int .i64 x1, .int .i64 x2]).keep (Mod.alloc (fun _ => False) _ _) (fun e => e)
    have hb2 : Blk W0 q 63 [.int .i64 y1, .int .i64 y2] := by
      have := Blk.new (w.alloc (.cells #[.int .i64 x1, .int .i64 x2] 63)) 63 [.int .i64 y1, .int .i64 y2]
      rw [show (w.alloc (.cells #[.int .i64 x1, .int .i64 x2] 63)).heap.size = q by simp; omega] at this
      rw [← hW0]; exact this
    have h1 := hb1.keep ((Mod.drew (fun _ => False) W0).trans hm (fun _ _ e => e) (fun _ _ e => e)) (fun e => e)
    have h2 := hb2.keep ((Mod.drew (fun _ => False) W0).trans hm (fun _ _ e => e) (fun _ _ e => e)) (fun e => e)
    exact ⟨h1.cell 0 rfl, h1.cell 1 rfl, h2.cell 0 rfl, h2.cell 1 rfl⟩
  rw [hW0, hp, hq]
  clear hW0 hp hq
  refine wp_region_inv (Mod (fun _ => False)) (fun i => (cmpb_F p q x1 x2 y1 y2).getD i (fun _ _ => True)) (fun i => cmpb_D.getD i []) (by kernel_rfl) (by kernel_rfl) (by kernel_rfl) (by kernel_rfl) (fun _ => Mod.refl _ _)
    (fun _ _ _ h k => h.trans k (fun _ _ e => e) (fun _ _ e => e)) (stable_list ?_) ?_ ?_
  · intro f hf
    simp only [cmpb_F, List.mem_cons, List.not_mem_nil, or_false] at hf
    rcases hf with rfl | rfl | rfl | rfl | rfl | rfl | rfl | rfl | rfl | rfl | rfl | rfl | rfl <;> first | exact stable_val _ | exact stable_new
  · refine opsOk_cons ?_ ?_
    · intro K vs W hR hD hK
      clear hD
      simp only [putAll, Nat.zero_add, Nat.reduceAdd, Act.put, List.setIfInBounds_toArray, List.set_cons_succ, List.set_cons_zero] at hK ⊢
      go_wp2
      exact hK _ _ rfl (Mod.refl _ _)
    refine opsOk_cons ?_ ?_
    · intro K vs W hR hD hK
      have d0 : vs 0 = .pointer (some ⟨p, 0, none⟩) := hD 0 (by decide)
      clear hD
      simp only [putAll, Nat.zero_add, Nat.reduceAdd, Act.put, List.setIfInBounds_toArray, List.set_cons_succ, List.set_cons_zero] at hK ⊢
      generalize vs 0 = v0 at hK d0 ⊢
      subst d0
      obtain ⟨k1, k2, k3, k4⟩ := HC.out W hR
      go_wp2
      exact hK _ _ rfl (Mod.refl _ _)
    refine opsOk_cons ?_ ?_
    · intro K vs W hR hD hK
      clear hD
      simp only [putAll, Nat.zero_add, Nat.reduceAdd, Act.put, List.setIfInBounds_toArray, List.set_cons_succ, List.set_cons_zero] at hK ⊢
      go_wp2
      exact hK _ _ rfl (Mod.refl _ _)
    refine opsOk_cons ?_ ?_
    · intro K vs W hR hD hK
      have d2 : vs 2 = .pointer (some ⟨q, 0, none⟩) := hD 2 (by decide)
      clear hD
      simp only [putAll, Nat.zero_add, Nat.reduceAdd, Act.put, List.setIfInBounds_toArray, List.set_cons_succ, List.set_cons_zero] at hK ⊢
      generalize vs 2 = v2 at hK d2 ⊢
      subst d2
      obtain ⟨k1, k2, k3, k4⟩ := HC.out W hR
      go_wp2
      exact hK _ _ rfl (Mod.refl _ _)
    refine opsOk_cons ?_ ?_
    · intro K vs W hR hD hK
      have d1 : vs 1 = .int .i64 x1 := hD 1 (by decide)
      have d3 : vs 3 = .int .i64 y1 := hD 3 (by decide)
      clear hD
      simp only [putAll, Nat.zero_add, Nat.reduceAdd, Act.put, List.setIfInBounds_toArray, List.set_cons_succ, List.set_cons_zero] at hK ⊢
      generalize vs 1 = v1 at hK d1 ⊢
      subst d1
      generalize vs 3 = v3 at hK d3 ⊢
      subst d3
      go_wp2_with (go_at_call 66; refine (compareI_any _ _ _).mono ?_; rintro e' w' ⟨rfl, rfl⟩)
      exact hK _ _ rfl (Mod.refl _ _)
    refine opsOk_cons ?_ ?_
    · intro K vs W hR hD hK
      clear hD
      simp only [putAll, Nat.zero_add, Nat.reduceAdd, Act.put, List.setIfInBounds_toArray, List.set_cons_succ, List.set_cons_zero] at hK ⊢
      go_wp2
      exact hK _ _ rfl (Mod.refl _ _)
    refine opsOk_cons ?_ ?_
    · intro K vs W hR hD hK
      have d5 : vs 5 = .pointer (some ⟨p, 1, none⟩) := hD 5 (by decide)
      clear hD
      simp only [putAll, Nat.zero_add, Nat.reduceAdd, Act.put, List.setIfInBounds_toArray, List.set_cons_succ, List.set_cons_zero] at hK ⊢
      generalize vs 5 = v5 at hK d5 ⊢
      subst d5
      obtain ⟨k1, k2, k3, k4⟩ := HC.out W hR
      go_wp2
      exact hK _ _ rfl (Mod.refl _ _)
    refine opsOk_cons ?_ ?_
    · intro K vs W hR hD hK
      clear hD
      simp only [putAll, Nat.zero_add, Nat.reduceAdd, Act.put, List.setIfInBounds_toArray, List.set_cons_succ, List.set_cons_zero] at hK ⊢
      go_wp2
      exact hK _ _ rfl (Mod.refl _ _)
    refine opsOk_cons ?_ ?_
    · intro K vs W hR hD hK
      have d7 : vs 7 = .pointer (some ⟨q, 1, none⟩) := hD 7 (by decide)
      clear hD
      simp only [putAll, Nat.zero_add, Nat.reduceAdd, Act.put, List.setIfInBounds_toArray, List.set_cons_succ, List.set_cons_zero] at hK ⊢
      generalize vs 7 = v7 at hK d7 ⊢
      subst d7
      obtain ⟨k1, k2, k3, k4⟩ := HC.out W hR
      go_wp2
      exact hK _ _ rfl (Mod.refl _ _)
    refine opsOk_cons ?_ ?_
    · intro K vs W hR hD hK
      have d6 : vs 6 = .int .i64 x2 := hD 6 (by decide)
      have d8 : vs 8 = .int .i64 y2 := hD 8 (by decide)
      clear hD
      simp only [putAll, Nat.zero_add, Nat.reduceAdd, Act.put, List.setIfInBounds_toArray, List.set_cons_succ, List.set_cons_zero] at hK ⊢
      generalize vs 6 = v6 at hK d6 ⊢
      subst d6
      generalize vs 8 = v8 at hK d8 ⊢
      subst d8
      go_wp2_with (go_at_call 66; refine (compareI_any _ _ _).mono ?_; rintro e' w' ⟨rfl, rfl⟩)
      exact hK _ _ rfl (Mod.refl _ _)
    refine opsOk_cons ?_ ?_
    · intro K vs W hR hD hK
      have d4 : vs 4 = .int .i64 (cmpI x1 y1) := hD 4 (by decide)
      have d9 : vs 9 = .int .i64 (cmpI x2 y2) := hD 9 (by decide)
      clear hD
      simp only [putAll, Nat.zero_add, Nat.reduceAdd, Act.put, List.setIfInBounds_toArray, List.set_cons_succ, List.set_cons_zero] at hK ⊢
      generalize vs 4 = v4 at hK d4 ⊢
      subst d4
      generalize vs 9 = v9 at hK d9 ⊢
      subst d9
      go_wp2
      exact hK _ _ ⟨_, rfl, Rd.lit _ [.int .i64 (cmpI x1 y1), .int .i64 (cmpI x2 y2)] _ _ 2 rfl rfl (by omega)⟩ (Mod.alloc _ _ _)
    refine opsOk_cons ?_ ?_
    · intro K vs W hR hD hK
      have d10 : (NewRow 2 [.int .i64 (cmpI x1 y1), .int .i64 (cmpI x2 y2)]) (vs 10) W := hD 10 (by decide)
      clear hD
      simp only [putAll, Nat.zero_add, Nat.reduceAdd, Act.put, List.setIfInBounds_toArray, List.set_cons_succ, List.set_cons_zero] at hK ⊢
      generalize vs 10 = v10 at hK d10 ⊢
      obtain ⟨p1, rfl, hr1⟩ := d10
      go_wp2_with fail
      refine (or_any _ _ _ _ _ hr1).mono ?_
      rw [show (if cmpI x1 y1 = 0 then cmpI x2 y2 else cmpI x1 y1) = cmpB (x1, x2) (y1, y2) from rfl]
      rintro e' w' ⟨rfl, rfl⟩
      go_wp2
      exact hK _ _ rfl (Mod.refl _ _)
    refine opsOk_cons ?_ ?_
    · intro K vs W hR hD hK
      have d11 : vs 11 = .int .i64 (cmpB (x1, x2) (y1, y2)) := hD 11 (by decide)
      clear hD
      simp only [putAll, Nat.zero_add, Nat.reduceAdd, Act.put, List.setIfInBounds_toArray, List.set_cons_succ, List.set_cons_zero] at hK ⊢
      generalize vs 11 = v11 at hK d11 ⊢
      subst d11
      go_wp2
      exact hK _ _ rfl (Mod.refl _ _)
    exact opsOk_nil
  · intro vs W hR hF
    have d12 : vs 12 = .int .i64 (cmpB (x1, x2) (y1, y2)) := hF 12 (by decide)
    clear hF
    simp only [putAll, Nat.zero_add, Nat.reduceAdd, Act.put, List.setIfInBounds_toArray, List.set_cons_succ, List.set_cons_zero]
    generalize vs 12 = v12 at d12 ⊢
    subst d12
    go_wp2
    go_ret
    exact ⟨rfl, hM0.trans ((Mod.drew _ _).trans hR (fun _ _ e => e) (fun _ _ e => e)) (fun _ _ e => e) (fun _ _ e => e)⟩
end Go.Proofs.Ytdccpikddhpleaa
