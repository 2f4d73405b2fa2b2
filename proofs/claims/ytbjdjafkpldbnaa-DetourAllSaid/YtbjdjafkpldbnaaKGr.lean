/- Graphs as plain lists: what may be; contracts of package graph's and the reference's looks at it. -/
import Derived.Test.YtbjdjafkpldbnaaRows
import Derived.Test.YtbjdjafkpldbnaaBase2
import Derived.Test.YtbjdjafkpldbnaaRegion
import Derived.StillTailTactics
import Derived.Deep.QuietTactic
import Derived.BigQuiet
namespace Mile
open Go Go.RowKit

abbrev P2 := Int × Int
abbrev P3 := Int × Int × Int
def c2 (x : P2) : List Value := [.int .i64 x.1, .int .i64 x.2]
def c3 (x : P3) : List Value := [.int .i64 x.1, .int .i64 x.2.1, .int .i64 x.2.2]
theorem c2_len : ∀ l : List P2, (l.flatMap c2).length = l.length * 2
  | [] => rfl
  | x :: l => by rw [List.flatMap_cons, List.length_append, c2_len l, List.length_cons]; simp [c2]; omega
theorem c3_len : ∀ l : List P3, (l.flatMap c3).length = l.length * 3
  | [] => rfl
  | x :: l => by rw [List.flatMap_cons, List.length_append, c3_len l, List.length_cons]; simp [c3]; omega
theorem c2_at : ∀ (l : List P2) (i : Nat) (hi : i < l.length), (l.flatMap c2)[i * 2 + 0]? = some (.int .i64 l[i].1) ∧ (l.flatMap c2)[i * 2 + 1]? = some (.int .i64 l[i].2)
  | [], i, hi => by simp at hi
  | x :: l, 0, _ => by simp [c2]
  | x :: l, i + 1, hi => by
    have := c2_at l i (by simpa using hi)
    simp only [List.flatMap_cons, List.getElem_cons_succ]
    rw [show (i + 1) * 2 + 0 = 2 + (i * 2 + 0) by omega, show (i + 1) * 2 + 1 = 2 + (i * 2 + 1) by omega]
    rw [List.getElem?_append_right (by simp [c2]), List.getElem?_append_right (by simp [c2])]
    simpa [c2] using this
theorem c3_at : ∀ (l : List P3) (i : Nat) (hi : i < l.length), (l.flatMap c3)[i * 3 + 0]? = some (.int .i64 l[i].1) ∧ (l.flatMap c3)[i * 3 + 1]? = some (.int .i64 l[i].2.1) ∧ (l.flatMap c3)[i * 3 + 2]? = some (.int .i64 l[i].2.2)
  | [], i, hi => by simp at hi
  | x :: l, 0, _ => by simp [c3]
  | x :: l, i + 1, hi => by
    have := c3_at l i (by simpa using hi)
    simp only [List.flatMap_cons, List.getElem_cons_succ]
    rw [show (i + 1) * 3 + 0 = 3 + (i * 3 + 0) by omega, show (i + 1) * 3 + 1 = 3 + (i * 3 + 1) by omega, show (i + 1) * 3 + 2 = 3 + (i * 3 + 2) by omega]
    rw [List.getElem?_append_right (by simp [c3]), List.getElem?_append_right (by simp [c3]), List.getElem?_append_right (by simp [c3])]
    simpa [c3] using this

/-- Where element i of a row of pairs lies; its cells. -/
theorem rd2 {w : World} {n c : Nat} {a : Option Addr} {S : List P2} (h : Rd w 2 (.slice a n c) n (S.flatMap c2)) (i : Nat) (hi : i < S.length) :
    ∃ b o, elemA a i 2 = ⟨b, o, none⟩ ∧ w.cell? ⟨b, o, none⟩ = some (.int .i64 S[i].1) ∧ w.cell? ⟨b, o + 1, none⟩ = some (.int .i64 S[i].2) := by
  obtain ⟨k1, k2⟩ := c2_at S i hi
  have hn : n = S.length := by have := h.1; rw [c2_len] at this; omega
  obtain ⟨b, o, hp, _⟩ := h.place (j := i) (by omega)
  exact ⟨b, o, hp, by simpa using h.elemN hp 0 k1, h.elemN hp 1 k2⟩
theorem rd3 {w : World} {n c : Nat} {a : Option Addr} {S : List P3} (h : Rd w 3 (.slice a n c) n (S.flatMap c3)) (i : Nat) (hi : i < S.length) :
    ∃ b o, elemA a i 3 = ⟨b, o, none⟩ ∧ w.cell? ⟨b, o, none⟩ = some (.int .i64 S[i].1) ∧ w.cell? ⟨b, o + 1, none⟩ = some (.int .i64 S[i].2.1) ∧ w.cell? ⟨b, o + 2, none⟩ = some (.int .i64 S[i].2.2) := by
  obtain ⟨k1, k2, k3⟩ := c3_at S i hi
  have hn : n = S.length := by have := h.1; rw [c3_len] at this; omega
  obtain ⟨b, o, hp, _⟩ := h.place (j := i) (by omega)
  exact ⟨b, o, hp, by simpa using h.elemN hp 0 k1, h.elemN hp 1 k2, h.elemN hp 2 k3⟩

structure GD where
  N : List P2
  E : List P3
  B : List P2

/-- The value of a graph as it is handed over. -/
structure GV (w : World) (a1 : Option Addr) (n1 d1 : Nat) (a2 : Option Addr) (n2 d2 : Nat) (a3 : Option Addr) (n3 d3 : Nat) (G : GD) : Prop where
  n : G.N.length = n1
  e : G.E.length = n2
  b : G.B.length = n3
  rn : Rd w 2 (.slice a1 n1 d1) n1 (G.N.flatMap c2)
  re : Rd w 3 (.slice a2 n2 d2) n2 (G.E.flatMap c3)
  rb : Rd w 2 (.slice a3 n3 d3) n3 (G.B.flatMap c2)

def NodeOk (x : P2) : Prop := (0 ≤ x.1 ∧ x.1 ≤ 4095) ∧ (0 ≤ x.2 ∧ x.2 ≤ 4095)
def EdgeOk (n : Nat) (x : P3) : Prop := (0 ≤ x.1 ∧ x.1 < n) ∧ (0 ≤ x.2.1 ∧ x.2.1 < n) ∧ (1 ≤ x.2.2 ∧ x.2.2 ≤ 65535)
def blt (x y : P2) : Prop := x.1 < y.1 ∨ (x.1 = y.1 ∧ x.2 < y.2)
def eAt (G : GD) (i : Int) : P3 := G.E.getD i.toNat (0, 0, 0)
def BanOk (G : GD) (x : P2) : Prop := (0 ≤ x.1 ∧ x.1 < G.E.length) ∧ (0 ≤ x.2 ∧ x.2 < G.E.length) ∧ (eAt G x.1).2.1 = (eAt G x.2).1
def SizesOk (G : GD) : Prop := (1 ≤ G.N.length ∧ G.N.length ≤ 256) ∧ G.E.length ≤ 512 ∧ G.B.length ≤ 1024
def NodesOk (G : GD) : Prop := ∀ x ∈ G.N, NodeOk x
def EdgesOk (G : GD) : Prop := ∀ x ∈ G.E, EdgeOk G.N.length x
def BansOk (G : GD) : Prop := ∀ i (h : i < G.B.length), BanOk G G.B[i] ∧ (∀ _ : 0 < i, blt (G.B[i - 1]'(by omega)) G.B[i])
def May (G : GD) : Prop := SizesOk G ∧ NodesOk G ∧ EdgesOk G ∧ BansOk G
end Mile
namespace Go.Proofs.Ytbjdjafkpldbnaa
open Go.RowKit Mile
set_option maxRecDepth 100000

theorem GR.infoN : (Try.prog.info? 78).map (fun i => (i.zero, i.size, i.bytes)) = some (some (.agg #[.int .i64 0, .int .i64 0]), 2, 16) := by kernel_rfl
theorem GR.infoE : (Try.prog.info? 43).map (fun i => (i.zero, i.size, i.bytes)) = some (some (.agg #[.int .i64 0, .int .i64 0, .int .i64 0]), 3, 24) := by kernel_rfl
theorem GR.infoB : (Try.prog.info? 81).map (fun i => (i.zero, i.size, i.bytes)) = some (some (.agg #[.int .i64 0, .int .i64 0]), 2, 16) := by kernel_rfl
theorem GR.infoI : (Try.prog.info? 3).map (fun i => (i.zero, i.size, i.bytes)) = some (some (.int .i64 0), 1, 8) := by kernel_rfl

theorem within_any (n a b : Int) (w : World) : Calls Try.prog 74 #[.int .i64 n, .int .i64 a, .int .i64 b] w fun e w' => e = .returned (.bool (decide (a ≤ n ∧ n ≤ b))) ∧ w = w' := by
  by_cases h1 : a ≤ n <;> by_cases h2 : n ≤ b <;>
  · go_enter Try.func74, Try.ntmps74
    go_wp2
    go_ret
    exact ⟨by simp [h1, h2], rfl⟩
set_option maxHeartbeats 2000000 in
theorem nodesFit_any (G : GD) (w : World) (a1 : Option Addr) (n1 d1 : Nat) (a2 : Option Addr) (n2 d2 : Nat) (a3 : Option Addr) (n3 d3 : Nat) (h : GV w a1 n1 d1 a2 n2 d2 a3 n3 d3 G) (hs : n1 ≤ 256) :
    Calls Try.prog 59 #[.agg #[.slice a1 n1 d1, .slice a2 n2 d2, .slice a3 n3 d3]] w fun e w' => ∃ r : Bool, e = .returned (.bool r) ∧ (r = true ↔ NodesOk G) ∧ Mod (fun _ => False) w w' := by
  obtain ⟨iN, hiN, hzN, hsN, hbN⟩ := info_parts GR.infoN
  obtain ⟨g1, _, _, hr, _, _⟩ := h
  have HG := Lib.hid g1
  clear g1
  go_enter Try.func59, Try.ntmps59
  go_wp2_with fail
  go_loopw [4, 8] (fun _ i wr => ∃ j : Nat, j ≤ n1 ∧ i = .int .i64 j ∧ Mod (fun _ => False) w wr ∧ ∀ k (hk : k < G.N.length), k < j → NodeOk G.N[k]) (fun _ i _ => n1 - (intOf i).toNat)
  case atStart => exact ⟨0, by omega, rfl, (Mod.refl _ _).thenAlloc _, fun k _ h => by omega⟩
  case round =>
    obtain ⟨j, hj, rfl, hM, hall⟩ := hrel
    have HA := Lib.hid hall
    clear hall
    by_cases hlt : j < n1
    · have hjl : j < G.N.length := by rw [HG.out]; exact hlt
      obtain ⟨b, o, hpl, e1, e2⟩ := rd2 (hr.keepA hM (fun _ _ e => e.elim)) j hjl
      have hix := fun wx => run_indexS (P := Try.prog) wx 24 78 iN 2 Try.underlying24 hiN hsN a1 n1 d1 j hlt (hr.some_ (by omega))
      rw [hpl] at hix
      have hok : Hid (NodeOk G.N[j] ↔ ((0 ≤ G.N[j].1 ∧ G.N[j].1 ≤ 4095) ∧ (0 ≤ G.N[j].2 ∧ G.N[j].2 ≤ 4095))) := Lib.hid Iff.rfl
      obtain ⟨x, hx⟩ : ∃ x, G.N[j].1 = x := ⟨_, rfl⟩
      obtain ⟨y, hy⟩ : ∃ y, G.N[j].2 = y := ⟨_, rfl⟩
      rw [hx, hy] at hok
      rw [hx] at e1
      rw [hy] at e2
      clear hx hy hpl
      by_cases c1 : 0 ≤ x ∧ x ≤ 4095
      · have d1 : decide (0 ≤ x ∧ x ≤ 4095) = true := by simpa using c1
        by_cases c2 : 0 ≤ y ∧ y ≤ 4095
        · have d2 : decide (0 ≤ y ∧ y ≤ 4095) = true := by simpa using c2
          go_wp2_with (first | (go_at_call 74; refine (within_any _ _ _ _).mono ?_; rintro e w' ⟨rfl, rfl⟩; rw [d1]) | (go_at_call 74; refine (within_any _ _ _ _).mono ?_; rintro e w' ⟨rfl, rfl⟩; rw [d2]))
          go_roundw
          case rel =>
            refine ⟨j + 1, hlt, by go_num, ?_, fun k hk hkj => ?_⟩
            · exact hM.thenAlloc _
            · by_cases e : k = j
              · subst e; exact hok.out.2 ⟨c1, c2⟩
              · exact HA.out k hk (by omega)
          case measure => simp [intOf]; omega
        · have d2 : decide (0 ≤ y ∧ y ≤ 4095) = false := by simpa using c2
          go_wp2_with (first | (go_at_call 74; refine (within_any _ _ _ _).mono ?_; rintro e w' ⟨rfl, rfl⟩; rw [d1]) | (go_at_call 74; refine (within_any _ _ _ _).mono ?_; rintro e w' ⟨rfl, rfl⟩; rw [d2]))
          go_ret
          exact ⟨false, rfl, ⟨fun h => (by cases h), fun h => absurd (hok.out.1 (h _ (List.getElem_mem hjl))).2 c2⟩, hM.thenAlloc _⟩
      · have d1 : decide (0 ≤ x ∧ x ≤ 4095) = false := by simpa using c1
        go_wp2_with (go_at_call 74; refine (within_any _ _ _ _).mono ?_; rintro e w' ⟨rfl, rfl⟩; rw [d1])
        go_ret
        exact ⟨false, rfl, ⟨fun h => (by cases h), fun h => absurd (hok.out.1 (h _ (List.getElem_mem hjl))).1 c1⟩, hM.thenAlloc _⟩
    · obtain rfl : j = n1 := by omega
      go_wp2_with fail
      go_ret
      exact ⟨true, rfl, ⟨fun _ x hx => by obtain ⟨i, hi, rfl⟩ := List.getElem_of_mem hx; exact HA.out i hi (by rw [← HG.out]; exact hi), fun _ => rfl⟩, hM⟩

set_option maxHeartbeats 2000000 in
theorem edgesFit_any (G : GD) (w : World) (a1 : Option Addr) (n1 d1 : Nat) (a2 : Option Addr) (n2 d2 : Nat) (a3 : Option Addr) (n3 d3 : Nat) (h : GV w a1 n1 d1 a2 n2 d2 a3 n3 d3 G) (hs : n1 ≤ 256) (hs2 : n2 ≤ 512) :
    Calls Try.prog 60 #[.agg #[.slice a1 n1 d1, .slice a2 n2 d2, .slice a3 n3 d3]] w fun e w' => ∃ r : Bool, e = .returned (.bool r) ∧ (r = true ↔ EdgesOk G) ∧ Mod (fun _ => False) w w' := by
  obtain ⟨iN, hiN, hzN, hsN, hbN⟩ := info_parts GR.infoE
  obtain ⟨g0, g1, _, _, hr, _⟩ := h
  have HG := Lib.hid g1
  have HN := Lib.hid g0
  clear g1 g0
  go_enter Try.func60, Try.ntmps60
  go_wp2_with fail
  go_loopw [5, 13] (fun _ i wr => ∃ j : Nat, j ≤ n2 ∧ i = .int .i64 j ∧ Mod (fun _ => False) w wr ∧ ∀ k (hk : k < G.E.length), k < j → EdgeOk G.N.length G.E[k]) (fun _ i _ => n2 - (intOf i).toNat)
  case atStart => exact ⟨0, by omega, rfl, (Mod.refl _ _).thenAlloc _, fun k _ h => by omega⟩
  case round =>
    obtain ⟨j, hj, rfl, hM, hall⟩ := hrel
    have HA := Lib.hid hall
    clear hall
    by_cases hlt : j < n2
    · have hjl : j < G.E.length := by rw [HG.out]; exact hlt
      obtain ⟨b, o, hpl, e1, e2, e3⟩ := rd3 (hr.keepA hM (fun _ _ e => e.elim)) j hjl
      have hix := fun wx => run_indexS (P := Try.prog) wx 25 43 iN 3 Try.underlying25 hiN hsN a2 n2 d2 j hlt (hr.some_ (by omega))
      rw [hpl] at hix
      have hok : Hid (EdgeOk G.N.length G.E[j] ↔ ((0 ≤ G.E[j].1 ∧ G.E[j].1 ≤ (n1 : Int) - 1) ∧ (0 ≤ G.E[j].2.1 ∧ G.E[j].2.1 ≤ (n1 : Int) - 1) ∧ (1 ≤ G.E[j].2.2 ∧ G.E[j].2.2 ≤ 65535))) := Lib.hid (by unfold EdgeOk; rw [HN.out]; omega)
      obtain ⟨x, hx⟩ : ∃ x, G.E[j].1 = x := ⟨_, rfl⟩
      obtain ⟨y, hy⟩ : ∃ y, G.E[j].2.1 = y := ⟨_, rfl⟩
      obtain ⟨z, hz⟩ : ∃ z, G.E[j].2.2 = z := ⟨_, rfl⟩
      rw [hx, hy, hz] at hok
      rw [hx] at e1
      rw [hy] at e2
      rw [hz] at e3
      clear hx hy hz hpl
      by_cases c1 : 0 ≤ x ∧ x ≤ (n1 : Int) - 1
      · have d1 : decide (0 ≤ x ∧ x ≤ (n1 : Int) - 1) = true := by simpa using c1
        by_cases c2 : 0 ≤ y ∧ y ≤ (n1 : Int) - 1
        · have d2 : decide (0 ≤ y ∧ y ≤ (n1 : Int) - 1) = true := by simpa using c2
          by_cases c3 : 1 ≤ z ∧ z ≤ 65535
          · have d3 : decide (1 ≤ z ∧ z ≤ 65535) = true := by simpa using c3
            go_wp2_with (go_at_call 74; refine (within_any _ _ _ _).mono ?_; rintro e w' ⟨rfl, rfl⟩; first | rw [d1] | rw [d2] | rw [d3])
            go_roundw
            case rel =>
              refine ⟨j + 1, hlt, by go_num, hM.thenAlloc _, fun k hk hkj => ?_⟩
              by_cases e : k = j
              · subst e; exact hok.out.2 ⟨c1, c2, c3⟩
              · exact HA.out k hk (by omega)
            case measure => simp [intOf]; omega
          · have d3 : decide (1 ≤ z ∧ z ≤ 65535) = false := by simpa using c3
            go_wp2_with (go_at_call 74; refine (within_any _ _ _ _).mono ?_; rintro e w' ⟨rfl, rfl⟩; first | rw [d1] | rw [d2] | rw [d3])
            go_ret
            exact ⟨false, rfl, ⟨fun h => (by cases h), fun h => absurd (hok.out.1 (h _ (List.getElem_mem hjl))).2.2 c3⟩, hM.thenAlloc _⟩
        · have d2 : decide (0 ≤ y ∧ y ≤ (n1 : Int) - 1) = false := by simpa using c2
          go_wp2_with (go_at_call 74; refine (within_any _ _ _ _).mono ?_; rintro e w' ⟨rfl, rfl⟩; first | rw [d1] | rw [d2])
          go_ret
          exact ⟨false, rfl, ⟨fun h => (by cases h), fun h => absurd (hok.out.1 (h _ (List.getElem_mem hjl))).2.1 c2⟩, hM.thenAlloc _⟩
      · have d1 : decide (0 ≤ x ∧ x ≤ (n1 : Int) - 1) = false := by simpa using c1
        go_wp2_with (go_at_call 74; refine (within_any _ _ _ _).mono ?_; rintro e w' ⟨rfl, rfl⟩; rw [d1])
        go_ret
        exact ⟨false, rfl, ⟨fun h => (by cases h), fun h => absurd (hok.out.1 (h _ (List.getElem_mem hjl))).1 c1⟩, hM.thenAlloc _⟩
    · obtain rfl : j = n2 := by omega
      go_wp2_with fail
      go_ret
      exact ⟨true, rfl, ⟨fun _ x hx => by obtain ⟨i, hi, rfl⟩ := List.getElem_of_mem hx; exact HA.out i hi (by rw [← HG.out]; exact hi), fun _ => rfl⟩, hM⟩

theorem isNaN_any (x : Int) (w : World) : Calls Try.prog 85 #[.int .i64 x] w fun e w' => e = .returned (.bool false) ∧ w = w' := by
  have d : (x == x) = true := by simp
  go_enter Try.func85, Try.ntmps85
  go_wp2
  go_ret
  exact ⟨by simp, rfl⟩
def cmpI (x y : Int) : Int := if x < y then -1 else if y < x then 1 else 0
theorem compareI_any (x y : Int) (w : World) : Calls Try.prog 84 #[.int .i64 x, .int .i64 y] w fun e w' => e = .returned (.int .i64 (cmpI x y)) ∧ w = w' := by
  by_cases h1 : x < y
  · go_enter Try.func84, Try.ntmps84
    go_wp2_with (go_at_call 85; refine (isNaN_any _ _).mono ?_; rintro e w' ⟨rfl, rfl⟩)
    go_ret
    exact ⟨by simp [cmpI, h1], rfl⟩
  · by_cases h2 : y < x
    · go_enter Try.func84, Try.ntmps84
      go_wp2_with (go_at_call 85; refine (isNaN_any _ _).mono ?_; rintro e w' ⟨rfl, rfl⟩)
      go_ret
      exact ⟨by simp [cmpI, h1, h2], rfl⟩
    · have e : cmpI x y = 0 := by unfold cmpI; rw [if_neg h1, if_neg h2]
      rw [e]
      clear e
      go_enter Try.func84, Try.ntmps84
      go_wp2_with (go_at_call 85; refine (isNaN_any _ _).mono ?_; rintro e w' ⟨rfl, rfl⟩)
      go_ret
      exact ⟨rfl, rfl⟩

/-- cmp.Or of two. -/
theorem or_any (x y : Int) (w : World) (a : Option Addr) (c : Nat) (hr : Rd w 1 (.slice a 2 c) 2 [.int .i64 x, .int .i64 y]) :
    Calls Try.prog 83 #[.slice a 2 c] w fun e w' => e = .returned (.int .i64 (if x = 0 then y else x)) ∧ w = w' := by
  obtain ⟨iN, hiN, hzN, hsN, hbN⟩ := info_parts GR.infoI
  have k0 := hr.elem (j := 0) rfl
  have k1 := hr.elem (j := 1) rfl
  have hix0 : ∀ wx, (Instr.indexAt 22 (.slice a 2 c) (.int .i64 0)).run Try.prog wx = .ok (.pointer (some (elemA a 0 1))) wx := fun wx => run_indexS (P := Try.prog) wx 22 3 iN 1 Try.underlying22 hiN hsN a 2 c 0 (by omega) (hr.some_ (by omega))
  have hix1 : ∀ wx, (Instr.indexAt 22 (.slice a 2 c) (.int .i64 1)).run Try.prog wx = .ok (.pointer (some (elemA a 1 1))) wx := fun wx => run_indexS (P := Try.prog) wx 22 3 iN 1 Try.underlying22 hiN hsN a 2 c 1 (by omega) (hr.some_ (by omega))
  go_enter Try.func83, Try.ntmps83
  go_wp2_with fail
  go_loopw [5, 8] (fun _ i wr => ∃ j : Nat, j ≤ 2 ∧ i = .int .i64 j ∧ wr = w ∧ (0 < j → x = 0) ∧ (1 < j → y = 0)) (fun _ i _ => 2 - (intOf i).toNat)
  case atStart => exact ⟨0, by omega, rfl, rfl, fun h => by omega, fun h => by omega⟩
  case round =>
    obtain ⟨j, hj, rfl, rfl, hx0, hy0⟩ := hrel
    rcases (show j = 0 ∨ j = 1 ∨ j = 2 by omega) with rfl | rfl | rfl
    · clear hx0 hy0 k1 hix1
      by_cases hx : x = 0
      · subst hx
        go_wp2_with fail
        go_roundw
        case rel => exact ⟨1, by omega, rfl, (by first | trivial | rfl), (by first | trivial | exact fun _ => rfl), (by first | trivial | exact fun h => by omega)⟩
        case measure => simp [intOf]
      · have d : (x == 0) = false := by rw [beq_eq_false_iff_ne]; exact hx
        go_wp2_with fail
        go_ret
        exact ⟨rfl, rfl⟩
    · have hx := hx0 (by omega)
      clear hx0 hy0 k0 hix0
      subst hx
      by_cases hy : y = 0
      · subst hy
        go_wp2_with fail
        go_roundw
        case rel => exact ⟨2, by omega, rfl, (by first | trivial | rfl), (by first | trivial | exact fun _ => rfl), (by first | trivial | exact fun _ => rfl)⟩
        case measure => simp [intOf]
      · have d : (y == 0) = false := by rw [beq_eq_false_iff_ne]; exact hy
        go_wp2_with fail
        go_ret
        exact ⟨rfl, rfl⟩
    · have hx := hx0 (by omega)
      have hy := hy0 (by omega)
      clear hx0 hy0 k0 hix0 k1 hix1
      subst hx hy
      go_wp2_with fail
      go_ret
      exact ⟨rfl, rfl⟩

/-- How bans are ordered. -/
def cmpB (x y : P2) : Int := if cmpI x.1 y.1 = 0 then cmpI x.2 y.2 else cmpI x.1 y.1
/-- What each operation of the statement leaves. -/
def cmpb_F (p q : Nat) (x1 x2 y1 y2 : Int) : List (Value → World → Prop) :=
  [IsV (.pointer (some ⟨p, 0, none⟩)),
   IsV (.int .i64 x1),
   IsV (.pointer (some ⟨q, 0, none⟩)),
   IsV (.int .i64 y1),
   IsV (.int .i64 (cmpI x1 y1)),
   IsV (.pointer (some ⟨p, 1, none⟩)),
   IsV (.int .i64 x2),
   IsV (.pointer (some ⟨q, 1, none⟩)),
   IsV (.int .i64 y2),
   IsV (.int .i64 (cmpI x2 y2)),
   (NewRow 2 [.int .i64 (cmpI x1 y1), .int .i64 (cmpI x2 y2)]),
   IsV (.int .i64 (cmpB (x1, x2) (y1, y2))),
   IsV (.int .i64 (cmpB (x1, x2) (y1, y2)))]
def cmpb_D : List (List Nat) := [[], [0], [], [2], [1, 3], [], [5], [], [7], [6, 8], [4, 9], [10], [11]]
set_option maxHeartbeats 2000000 in
theorem compareBans_any (x y : P2) (w : World) : Calls Try.prog 75 #[.agg #[.int .i64 x.1, .int .i64 x.2], .agg #[.int .i64 y.1, .int .i64 y.2]] w fun e w' => e = .returned (.int .i64 (cmpB x y)) ∧ Mod (fun _ => False) w w' := by
  obtain ⟨x1, x2⟩ := x
  obtain ⟨y1, y2⟩ := y
  go_enter Try.func75, Try.ntmps75
  go_wp2_with fail
  obtain ⟨W0, hW0⟩ : ∃ W0, (w.alloc (.cells #[.int .i64 x1, .int .i64 x2] 81)).alloc (.cells #[.int .i64 y1, .int .i64 y2] 81) = W0 := ⟨_, rfl⟩
  have hM0 : Mod (fun _ => False) w W0 := by rw [← hW0]; exact ((Mod.refl _ w).thenAlloc _).thenAlloc _
  obtain ⟨p, hp⟩ : ∃ p, w.heap.size = p := ⟨_, rfl⟩
  obtain ⟨q, hq⟩ : ∃ q, p + 1 = q := ⟨_, rfl⟩
  have HC : Hid (∀ W, Mod (fun _ => False) W0.drew W → W.cell? ⟨p, 0, none⟩ = some (.int .i64 x1) ∧ W.cell? ⟨p, 1, none⟩ = some (.int .i64 x2) ∧ W.cell? ⟨q, 0, none⟩ = some (.int .i64 y1) ∧ W.cell? ⟨q, 1, none⟩ = some (.int .i64 y2)) := Lib.hid fun W hm => by
    have hb1 : Blk W0 p 81 [.int .i64 x1, .int .i64 x2] := by
      rw [← hW0, ← hp]; exact (Blk.new w 81 [.int .i64 x1, .int .i64 x2]).keep (Mod.alloc (fun _ => False) _ _) (fun e => e)
    have hb2 : Blk W0 q 81 [.int .i64 y1, .int .i64 y2] := by
      have := Blk.new (w.alloc (.cells #[.int .i64 x1, .int .i64 x2] 81)) 81 [.int .i64 y1, .int .i64 y2]
      rw [show (w.alloc (.cells #[.int .i64 x1, .int .i64 x2] 81)).heap.size = q by simp; omega] at this
      rw [← hW0]; exact this
    have h1 := hb1.keep ((Mod.drew (fun _ => False) W0).trans hm (fun _ _ e => e) (fun _ _ e => e)) (fun e => e)
    have h2 := hb2.keep ((Mod.drew (fun _ => False) W0).trans hm (fun _ _ e => e) (fun _ _ e => e)) (fun e => e)
    exact ⟨h1.cell 0 rfl, h1.cell 1 rfl, h2.cell 0 rfl, h2.cell 1 rfl⟩
  rw [hW0, hp, hq]
  clear hW0 hp hq
  refine wp_region_inv (Mod (fun _ => False)) (fun i => (cmpb_F p q x1 x2 y1 y2).getD i (fun _ _ => True)) (fun i => cmpb_D.getD i []) (by kernel_rfl) (by kernel_rfl) (by kernel_rfl) (by kernel_rfl) (fun _ => Mod.refl _ _)
    (fun _ _ _ h k => h.trans k (fun _ _ e => e) (fun _ _ e => e)) (stable_list ?_) ?_ ?_
  · intro f hf
    simp only [cmpb_F, List.mem_cons, List.not_mem_nil, or_false] at hf
    rcases hf with rfl | rfl | rfl | rfl | rfl | rfl | rfl | rfl | rfl | rfl | rfl | rfl | rfl <;> first | exact stable_val _ | exact stable_new
  · refine opsOk_cons ?_ ?_
    · intro K vs W hR hD hK
      clear hD
      simp only [putAll, Nat.zero_add, Nat.reduceAdd, Act.put, List.setIfInBounds_toArray, List.set_cons_succ, List.set_cons_zero] at hK ⊢
      go_wp2
      exact hK _ _ rfl (Mod.refl _ _)
    refine opsOk_cons ?_ ?_
    · intro K vs W hR hD hK
      have d0 : vs 0 = .pointer (some ⟨p, 0, none⟩) := hD 0 (by decide)
      clear hD
      simp only [putAll, Nat.zero_add, Nat.reduceAdd, Act.put, List.setIfInBounds_toArray, List.set_cons_succ, List.set_cons_zero] at hK ⊢
      generalize vs 0 = v0 at hK d0 ⊢
      subst d0
      obtain ⟨k1, k2, k3, k4⟩ := HC.out W hR
      go_wp2
      exact hK _ _ rfl (Mod.refl _ _)
    refine opsOk_cons ?_ ?_
    · intro K vs W hR hD hK
      clear hD
      simp only [putAll, Nat.zero_add, Nat.reduceAdd, Act.put, List.setIfInBounds_toArray, List.set_cons_succ, List.set_cons_zero] at hK ⊢
      go_wp2
      exact hK _ _ rfl (Mod.refl _ _)
    refine opsOk_cons ?_ ?_
    · intro K vs W hR hD hK
      have d2 : vs 2 = .pointer (some ⟨q, 0, none⟩) := hD 2 (by decide)
      clear hD
      simp only [putAll, Nat.zero_add, Nat.reduceAdd, Act.put, List.setIfInBounds_toArray, List.set_cons_succ, List.set_cons_zero] at hK ⊢
      generalize vs 2 = v2 at hK d2 ⊢
      subst d2
      obtain ⟨k1, k2, k3, k4⟩ := HC.out W hR
      go_wp2
      exact hK _ _ rfl (Mod.refl _ _)
    refine opsOk_cons ?_ ?_
    · intro K vs W hR hD hK
      have d1 : vs 1 = .int .i64 x1 := hD 1 (by decide)
      have d3 : vs 3 = .int .i64 y1 := hD 3 (by decide)
      clear hD
      simp only [putAll, Nat.zero_add, Nat.reduceAdd, Act.put, List.setIfInBounds_toArray, List.set_cons_succ, List.set_cons_zero] at hK ⊢
      generalize vs 1 = v1 at hK d1 ⊢
      subst d1
      generalize vs 3 = v3 at hK d3 ⊢
      subst d3
      go_wp2_with (go_at_call 84; refine (compareI_any _ _ _).mono ?_; rintro e' w' ⟨rfl, rfl⟩)
      exact hK _ _ rfl (Mod.refl _ _)
    refine opsOk_cons ?_ ?_
    · intro K vs W hR hD hK
      clear hD
      simp only [putAll, Nat.zero_add, Nat.reduceAdd, Act.put, List.setIfInBounds_toArray, List.set_cons_succ, List.set_cons_zero] at hK ⊢
      go_wp2
      exact hK _ _ rfl (Mod.refl _ _)
    refine opsOk_cons ?_ ?_
    · intro K vs W hR hD hK
      have d5 : vs 5 = .pointer (some ⟨p, 1, none⟩) := hD 5 (by decide)
      clear hD
      simp only [putAll, Nat.zero_add, Nat.reduceAdd, Act.put, List.setIfInBounds_toArray, List.set_cons_succ, List.set_cons_zero] at hK ⊢
      generalize vs 5 = v5 at hK d5 ⊢
      subst d5
      obtain ⟨k1, k2, k3, k4⟩ := HC.out W hR
      go_wp2
      exact hK _ _ rfl (Mod.refl _ _)
    refine opsOk_cons ?_ ?_
    · intro K vs W hR hD hK
      clear hD
      simp only [putAll, Nat.zero_add, Nat.reduceAdd, Act.put, List.setIfInBounds_toArray, List.set_cons_succ, List.set_cons_zero] at hK ⊢
      go_wp2
      exact hK _ _ rfl (Mod.refl _ _)
    refine opsOk_cons ?_ ?_
    · intro K vs W hR hD hK
      have d7 : vs 7 = .pointer (some ⟨q, 1, none⟩) := hD 7 (by decide)
      clear hD
      simp only [putAll, Nat.zero_add, Nat.reduceAdd, Act.put, List.setIfInBounds_toArray, List.set_cons_succ, List.set_cons_zero] at hK ⊢
      generalize vs 7 = v7 at hK d7 ⊢
      subst d7
      obtain ⟨k1, k2, k3, k4⟩ := HC.out W hR
      go_wp2
      exact hK _ _ rfl (Mod.refl _ _)
    refine opsOk_cons ?_ ?_
    · intro K vs W hR hD hK
      have d6 : vs 6 = .int .i64 x2 := hD 6 (by decide)
      have d8 : vs 8 = .int .i64 y2 := hD 8 (by decide)
      clear hD
      simp only [putAll, Nat.zero_add, Nat.reduceAdd, Act.put, List.setIfInBounds_toArray, List.set_cons_succ, List.set_cons_zero] at hK ⊢
      generalize vs 6 = v6 at hK d6 ⊢
      subst d6
      generalize vs 8 = v8 at hK d8 ⊢
      subst d8
      go_wp2_with (go_at_call 84; refine (compareI_any _ _ _).mono ?_; rintro e' w' ⟨rfl, rfl⟩)
      exact hK _ _ rfl (Mod.refl _ _)
    refine opsOk_cons ?_ ?_
    · intro K vs W hR hD hK
      have d4 : vs 4 = .int .i64 (cmpI x1 y1) := hD 4 (by decide)
      have d9 : vs 9 = .int .i64 (cmpI x2 y2) := hD 9 (by decide)
      clear hD
      simp only [putAll, Nat.zero_add, Nat.reduceAdd, Act.put, List.setIfInBounds_toArray, List.set_cons_succ, List.set_cons_zero] at hK ⊢
      generalize vs 4 = v4 at hK d4 ⊢
      subst d4
      generalize vs 9 = v9 at hK d9 ⊢
      subst d9
      go_wp2
      exact hK _ _ ⟨_, rfl, Rd.lit _ [.int .i64 (cmpI x1 y1), .int .i64 (cmpI x2 y2)] _ _ 2 rfl rfl (by omega)⟩ (Mod.alloc _ _ _)
    refine opsOk_cons ?_ ?_
    · intro K vs W hR hD hK
      have d10 : (NewRow 2 [.int .i64 (cmpI x1 y1), .int .i64 (cmpI x2 y2)]) (vs 10) W := hD 10 (by decide)
      clear hD
      simp only [putAll, Nat.zero_add, Nat.reduceAdd, Act.put, List.setIfInBounds_toArray, List.set_cons_succ, List.set_cons_zero] at hK ⊢
      generalize vs 10 = v10 at hK d10 ⊢
      obtain ⟨p1, rfl, hr1⟩ := d10
      go_wp2_with fail
      refine (or_any _ _ _ _ _ hr1).mono ?_
      rw [show (if cmpI x1 y1 = 0 then cmpI x2 y2 else cmpI x1 y1) = cmpB (x1, x2) (y1, y2) from rfl]
      rintro e' w' ⟨rfl, rfl⟩
      go_wp2
      exact hK _ _ rfl (Mod.refl _ _)
    refine opsOk_cons ?_ ?_
    · intro K vs W hR hD hK
      have d11 : vs 11 = .int .i64 (cmpB (x1, x2) (y1, y2)) := hD 11 (by decide)
      clear hD
      simp only [putAll, Nat.zero_add, Nat.reduceAdd, Act.put, List.setIfInBounds_toArray, List.set_cons_succ, List.set_cons_zero] at hK ⊢
      generalize vs 11 = v11 at hK d11 ⊢
      subst d11
      go_wp2
      exact hK _ _ rfl (Mod.refl _ _)
    exact opsOk_nil
  · intro vs W hR hF
    have d12 : vs 12 = .int .i64 (cmpB (x1, x2) (y1, y2)) := hF 12 (by decide)
    clear hF
    simp only [putAll, Nat.zero_add, Nat.reduceAdd, Act.put, List.setIfInBounds_toArray, List.set_cons_succ, List.set_cons_zero]
    generalize vs 12 = v12 at d12 ⊢
    subst d12
    go_wp2
    go_ret
    exact ⟨rfl, hM0.trans ((Mod.drew _ _).trans hR (fun _ _ e => e) (fun _ _ e => e)) (fun _ _ e => e) (fun _ _ e => e)⟩
end Go.Proofs.Ytbjdjafkpldbnaa
namespace Go.Proofs.Ytbjdjafkpldbnaa
open Go.RowKit Mile
set_option maxRecDepth 100000
theorem cmpB_nonneg (x y : P2) : 0 ≤ cmpB x y ↔ ¬ blt x y := by
  unfold cmpB cmpI blt
  split <;> split <;> (try split) <;> (try split) <;> omega
theorem eAt_eq (G : GD) (i : Nat) (h : i < G.E.length) : eAt G (i : Int) = G.E[i] := by
  unfold eAt; simp [List.getD, h]
theorem within_q {n a b : Int} {r : Bool} (h : decide (a ≤ n ∧ n ≤ b) = r) (w : World) (k : Nat) : Calls Try.prog 74 #[.int .i64 n, .int .i64 a, .int .i64 b] (w.drewN k) fun e w' => e = .returned (.bool r) ∧ w' = w.drewN k :=
  (within_any n a b _).mono fun e w' hh => ⟨by rw [hh.1, h], hh.2.symm⟩

set_option maxHeartbeats 8000000 in
set_option maxRecDepth 100000 in
theorem bansFit_any (G : GD) (w : World) (a1 : Option Addr) (n1 d1 : Nat) (a2 : Option Addr) (n2 d2 : Nat) (a3 : Option Addr) (n3 d3 : Nat) (h : GV w a1 n1 d1 a2 n2 d2 a3 n3 d3 G) (hs2 : n2 ≤ 512) (hs3 : n3 ≤ 1024) :
    Calls Try.prog 61 #[.agg #[.slice a1 n1 d1, .slice a2 n2 d2, .slice a3 n3 d3]] w fun e w' => ∃ r : Bool, e = .returned (.bool r) ∧ (r = true ↔ BansOk G) ∧ Mod (fun _ => False) w w' := by
  obtain ⟨iN, hiN, hzN, hsN, hbN⟩ := info_parts GR.infoE
  obtain ⟨iB, hiB, hzB, hsB, hbB⟩ := info_parts GR.infoB
  obtain ⟨_, g2, g3, _, hre, hrb⟩ := h
  have HE := Lib.hid g2
  have HB := Lib.hid g3
  clear g2 g3
  go_enter Try.func61, Try.ntmps61
  go_wp2_with fail
  have hM0 : Mod (fun _ => False) w (w.alloc (.cells #[.slice a1 n1 d1, .slice a2 n2 d2, .slice a3 n3 d3] 28)) := (Mod.refl _ _).thenAlloc _
  have hG0 : Blk (w.alloc (.cells #[.slice a1 n1 d1, .slice a2 n2 d2, .slice a3 n3 d3] 28)) w.heap.size 28 [.slice a1 n1 d1, .slice a2 n2 d2, .slice a3 n3 d3] := Blk.new w 28 [.slice a1 n1 d1, .slice a2 n2 d2, .slice a3 n3 d3]
  obtain ⟨W1, hW1⟩ : ∃ W1, w.alloc (.cells #[.slice a1 n1 d1, .slice a2 n2 d2, .slice a3 n3 d3] 28) = W1 := ⟨_, rfl⟩
  obtain ⟨p, hp⟩ : ∃ p, w.heap.size = p := ⟨_, rfl⟩
  rw [hW1, hp] at hG0
  rw [hW1] at hM0
  rw [hW1, hp]
  clear hW1 hp
  go_loopw [4, 5, 13] (fun _ _ i wr => ∃ j : Nat, j ≤ n3 ∧ i = .int .i64 j ∧ Mod (fun _ => False) W1 wr ∧ ∀ k (hk : k < G.B.length), k < j → BanOk G G.B[k] ∧ (∀ _ : 0 < k, blt (G.B[k - 1]'(by omega)) G.B[k])) (fun _ _ i _ => n3 - (intOf i).toNat)
  case atStart => exact ⟨0, by omega, rfl, Mod.refl _ _, fun k _ h => by omega⟩
  case round =>
    obtain ⟨j, hj, rfl, hM1, hall⟩ := hrel
    have hM := hM0.trans hM1 (H := fun _ => False) (fun _ _ e => e) (fun _ _ e => e)
    have HA := Lib.hid hall
    clear hall
    have hG := hG0.keep hM1 (fun e => e)
    have f0 : wr.cell? ⟨p, 0, none⟩ = some (.slice a1 n1 d1) := hG.cell 0 rfl
    have f1 : wr.cell? ⟨p, 1, none⟩ = some (.slice a2 n2 d2) := hG.cell 1 rfl
    have f2 : wr.cell? ⟨p, 2, none⟩ = some (.slice a3 n3 d3) := hG.cell 2 rfl
    have hlt2 := hG.lt
    by_cases hlt : j < n3
    · have hjl : j < G.B.length := by rw [HB.out]; exact hlt
      obtain ⟨b, o, hpl, e1, e2⟩ := rd2 (hrb.keepA hM (fun _ _ e => e.elim)) j hjl
      have hix := fun wx => run_indexS (P := Try.prog) wx 26 81 iB 2 Try.underlying26 hiB hsB a3 n3 d3 j hlt (hrb.some_ (by omega))
      rw [hpl] at hix
      have hok : Hid (BanOk G G.B[j] ↔ ((0 ≤ G.B[j].1 ∧ G.B[j].1 ≤ (n2 : Int) - 1) ∧ (0 ≤ G.B[j].2 ∧ G.B[j].2 ≤ (n2 : Int) - 1) ∧ (eAt G G.B[j].1).2.1 = (eAt G G.B[j].2).1)) := Lib.hid (by unfold BanOk; rw [HE.out]; omega)
      have hprev : Hid (∀ t (ht : j = t + 1), ∀ w', Mod (fun _ => False) w w' → ∃ b o, elemA a3 t 2 = ⟨b, o, none⟩ ∧ w'.cell? ⟨b, o, none⟩ = some (.int .i64 (G.B[t]'(by omega)).1) ∧ w'.cell? ⟨b, o + 1, none⟩ = some (.int .i64 (G.B[t]'(by omega)).2)) := Lib.hid fun t ht w' hw' => rd2 (hrb.keepA hw' (fun _ _ e => e.elim)) t (by omega)
      obtain ⟨X, hX⟩ : ∃ X, G.B[j] = X := ⟨_, rfl⟩
      have HX := Lib.hid hX
      rw [hX] at hok e1 e2
      clear hX hpl
      obtain ⟨x, y⟩ := X
      simp only at hok e1 e2
      by_cases c1 : 0 ≤ x ∧ x ≤ (n2 : Int) - 1
      · have k1 : decide (0 ≤ x ∧ x ≤ (n2 : Int) - 1) = true := by simpa using c1
        by_cases c2 : 0 ≤ y ∧ y ≤ (n2 : Int) - 1
        · have k2 : decide (0 ≤ y ∧ y ≤ (n2 : Int) - 1) = true := by simpa using c2
          obtain ⟨kx, hkx⟩ := Int.eq_ofNat_of_zero_le c1.1
          obtain ⟨ky, hky⟩ := Int.eq_ofNat_of_zero_le c2.1
          subst hkx hky
          have hkx : kx < G.E.length := by rw [HE.out]; omega
          have hky : ky < G.E.length := by rw [HE.out]; omega
          rw [eAt_eq G kx hkx, eAt_eq G ky hky] at hok
          obtain ⟨bx, ox, hpx, _, x2, _⟩ := rd3 (hre.keepA hM (fun _ _ e => e.elim)) kx hkx
          obtain ⟨by_, oy, hpy, y1, _, _⟩ := rd3 (hre.keepA hM (fun _ _ e => e.elim)) ky hky
          have hixx := fun wx => run_indexS (P := Try.prog) wx 25 43 iN 3 Try.underlying25 hiN hsN a2 n2 d2 kx (by omega) (hre.some_ (by omega))
          have hixy := fun wx => run_indexS (P := Try.prog) wx 25 43 iN 3 Try.underlying25 hiN hsN a2 n2 d2 ky (by omega) (hre.some_ (by omega))
          rw [hpx] at hixx
          rw [hpy] at hixy
          obtain ⟨u, hu⟩ : ∃ u, G.E[kx].2.1 = u := ⟨_, rfl⟩
          obtain ⟨v, hv⟩ : ∃ v, G.E[ky].1 = v := ⟨_, rfl⟩
          rw [hu] at x2 hok
          rw [hv] at y1 hok
          clear hu hv hpx hpy
          have ltx : bx < wr.heap.size := World.block_lt_of_cell? _ _ x2
          have lty : by_ < wr.heap.size := World.block_lt_of_cell? _ _ y1
          by_cases c3 : u = v
          · have q3 : (u == v) = true := by simpa using c3
            by_cases hj0 : j = 0
            · have g0 : decide ((0 : Int) < (j : Int)) = false := by simp; omega
              have g00 : decide (0 < j) = false := by simp; omega
              have HJ := Lib.hid hj0
              clear hj0 hprev
              go_wp2_with fail
              go_quiet ((go_at_call 74; exact Calls.quiet_of_same (within_q (by assumption) _ _)))
              go_wp2_with fail
              go_quiet (fail)
              go_wp2_with fail
              go_roundw
              case rel =>
                refine ⟨j + 1, hlt, by go_num, (hM1.thenAlloc _).trans (Mod.drewN (fun _ => False) _ _) (fun _ _ e => e) (fun _ _ e => e), fun k hk hkj => ?_⟩
                by_cases e : k = j
                · subst e
                  rw [HX.out]
                  exact ⟨hok.out.2 ⟨c1, c2, c3⟩, fun h => absurd HJ.out (by omega)⟩
                · exact HA.out k hk (by omega)
              case measure => simp [intOf]; omega
            · have g0 : decide ((0 : Int) < (j : Int)) = true := by simp; omega
              have g00 : decide (0 < j) = true := by simp; omega
              have hj1 : j - 1 < G.B.length := by omega
              obtain ⟨t, ht⟩ : ∃ t, j = t + 1 := ⟨j - 1, by omega⟩
              have htl : t < G.B.length := by omega
              have e0 : (j : Int) - 1 = (t : Int) := by omega
              obtain ⟨pb, po, hpp, p1, p2⟩ := hprev.out t ht wr hM
              have hixp : ∀ wx, (Instr.indexAt 26 (.slice a3 n3 d3) (.int .i64 ((j : Int) - 1))).run Try.prog wx = .ok (.pointer (some ⟨pb, po, none⟩)) wx := fun wx => by
                rw [e0, ← hpp]; exact run_indexS (P := Try.prog) wx 26 81 iB 2 Try.underlying26 hiB hsB a3 n3 d3 t (by omega) (hrb.some_ (by omega))
              have ltp : pb < wr.heap.size := World.block_lt_of_cell? _ _ p1
              obtain ⟨z, hz⟩ : ∃ z, (G.B[t]'htl) = z := ⟨_, rfl⟩
              rw [hz] at p1 p2
              obtain ⟨z1, z2⟩ := z
              simp only at p1 p2
              have HBL : Hid (blt (G.B[j - 1]'hj1) G.B[j] ↔ blt (z1, z2) ((kx : Int), (ky : Int))) := Lib.hid (by
                have hjt : j - 1 = t := by omega
                rw [HX.out]
                simp only [hjt]
                rw [hz])
              have HJ := Lib.hid hj0
              clear hz ht e0 hpp hprev hj0
              have hcmp := cmpB_nonneg (z1, z2) ((kx : Int), (ky : Int))
              obtain ⟨cv, hcv⟩ : ∃ cv, cmpB (z1, z2) ((kx : Int), (ky : Int)) = cv := ⟨_, rfl⟩
              rw [hcv] at hcmp
              have HCV := Lib.hid hcv
              have HCM := Lib.hid hcmp
              clear hcv hcmp
              go_wp2_with fail
              go_quiet ((go_at_call 74; exact Calls.quiet_of_same (within_q (by assumption) _ _)))
              go_wp2_with fail
              have hM3 := (hM1.thenAlloc (.cells #[.int .i64 (kx : Int), .int .i64 (ky : Int)] 81)).trans (Mod.drewN (fun _ => False) _ nq) (H := fun _ => False) (fun _ _ e => e) (fun _ _ e => e)
              have hNB : Blk ((wr.alloc (.cells #[.int .i64 (kx : Int), .int .i64 (ky : Int)] 81)).drewN nq) wr.heap.size 81 [.int .i64 (kx : Int), .int .i64 (ky : Int)] := (Blk.new wr 81 [.int .i64 (kx : Int), .int .i64 (ky : Int)]).keep (Mod.drewN (fun _ => False) _ nq) (fun e => e)
              have f2' := ((Mod.alloc (fun _ => False) wr (.cells #[.int .i64 (kx : Int), .int .i64 (ky : Int)] 81)).trans (Mod.drewN (fun _ => False) _ nq) (H := fun _ => False) (fun _ _ e => e) (fun _ _ e => e)).cell f2 (fun e => e)
              have p1' := ((Mod.alloc (fun _ => False) wr (.cells #[.int .i64 (kx : Int), .int .i64 (ky : Int)] 81)).trans (Mod.drewN (fun _ => False) _ nq) (H := fun _ => False) (fun _ _ e => e) (fun _ _ e => e)).cell p1 (fun e => e)
              have p2' := ((Mod.alloc (fun _ => False) wr (.cells #[.int .i64 (kx : Int), .int .i64 (ky : Int)] 81)).trans (Mod.drewN (fun _ => False) _ nq) (H := fun _ => False) (fun _ _ e => e) (fun _ _ e => e)).cell p2 (fun e => e)
              obtain ⟨wq, hwq⟩ : ∃ wq, (wr.alloc (.cells #[.int .i64 (kx : Int), .int .i64 (ky : Int)] 81)).drewN nq = wq := ⟨_, rfl⟩
              obtain ⟨s, hs⟩ : ∃ s, wr.heap.size = s := ⟨_, rfl⟩
              rw [hs] at hNB
              rw [hwq] at hM3 hNB f2' p1' p2'
              rw [hwq, hs]
              clear f0 f1 f2 p1 p2 e1 e2 x2 y1 hwq
              have b0 := hNB.cell 0 rfl
              have b1 := hNB.cell 1 rfl
              have hw1 : IntKind.i64.wrap ((j : Int) - 1) = (j : Int) - 1 := IntWalk.i64_in _ (by omega)
              go_still_tail 10, (by kernel_rfl)
              change wpList _ _ _ _ _ (World.drew wq)
              go_wp2_with fail
              refine (compareBans_any (z1, z2) ((kx : Int), (ky : Int)) _).mono ?_
              rintro e w1 ⟨rfl, hM2⟩
              rw [HCV.out]
              have hM4 := hM3.thenDrew.trans hM2 (H := fun _ => False) (fun _ _ e => e) (fun _ _ e => e)
              by_cases hc : 0 ≤ cv
              · have g1 : decide (0 ≤ cv) = true := by simpa using hc
                go_wp2_with fail
                go_ret
                exact ⟨false, rfl, ⟨fun h => (by cases h), fun h => absurd (HBL.out.1 ((h j hjl).2 (by have := HJ.out; omega))) (HCM.out.1 hc)⟩, hM0.trans hM4 (fun _ _ e => e) (fun _ _ e => e)⟩
              · have g1 : decide (0 ≤ cv) = false := by simpa using hc
                go_wp2_with fail
                go_roundw
                case rel =>
                  refine ⟨j + 1, hlt, by go_num, hM4, fun k hk hkj => ?_⟩
                  by_cases e : k = j
                  · subst e
                    refine ⟨by rw [HX.out]; exact hok.out.2 ⟨c1, c2, c3⟩, fun h => HBL.out.2 (Classical.byContradiction fun hn => by have := HCM.out.2 hn; omega)⟩
                  · exact HA.out k hk (by omega)
                case measure => simp [intOf]; omega
          · have q3 : (u == v) = false := by rw [beq_eq_false_iff_ne]; exact c3
            go_wp2_with fail
            go_quiet ((go_at_call 74; exact Calls.quiet_of_same (within_q (by assumption) _ _)))
            go_wp2_with fail
            go_ret
            exact ⟨false, rfl, ⟨fun h => (by cases h), fun h => absurd (hok.out.1 (by rw [← HX.out]; exact (h j hjl).1)).2.2 c3⟩, (hM.thenAlloc _).trans (Mod.drewN (fun _ => False) _ _) (fun _ _ e => e) (fun _ _ e => e)⟩
        · have k2 : decide (0 ≤ y ∧ y ≤ (n2 : Int) - 1) = false := by simpa using c2
          go_wp2_with fail
          go_quiet ((go_at_call 74; exact Calls.quiet_of_same (within_q (by assumption) _ _)))
          go_wp2_with fail
          go_ret
          exact ⟨false, rfl, ⟨fun h => (by cases h), fun h => absurd (hok.out.1 (by rw [← HX.out]; exact (h j hjl).1)).2.1 c2⟩, (hM.thenAlloc _).trans (Mod.drewN (fun _ => False) _ _) (fun _ _ e => e) (fun _ _ e => e)⟩
      · have k1 : decide (0 ≤ x ∧ x ≤ (n2 : Int) - 1) = false := by simpa using c1
        go_wp2_with fail
        go_quiet ((go_at_call 74; exact Calls.quiet_of_same (within_q (by assumption) _ _)))
        go_wp2_with fail
        go_ret
        exact ⟨false, rfl, ⟨fun h => (by cases h), fun h => absurd (hok.out.1 (by rw [← HX.out]; exact (h j hjl).1)).1 c1⟩, (hM.thenAlloc _).trans (Mod.drewN (fun _ => False) _ _) (fun _ _ e => e) (fun _ _ e => e)⟩
    · obtain rfl : j = n3 := by omega
      go_wp2_with fail
      go_ret
      exact ⟨true, rfl, ⟨fun _ i hi => HA.out i hi (by rw [← HB.out]; exact hi), fun _ => rfl⟩, hM⟩
end Go.Proofs.Ytbjdjafkpldbnaa
namespace Go.Proofs.Ytbjdjafkpldbnaa
open Go.RowKit Mile
set_option maxRecDepth 100000

/-- A look that tells whether P holds, and changes nothing that was there. -/
def FitP (P : Prop) (w : World) (e : Ending) (w' : World) : Prop := ∃ r : Bool, e = .returned (.bool r) ∧ (r = true ↔ P) ∧ Mod (fun _ => False) w w'

set_option maxHeartbeats 2000000 in
theorem sizesFit_any (G : GD) (w : World) (a1 : Option Addr) (n1 d1 : Nat) (a2 : Option Addr) (n2 d2 : Nat) (a3 : Option Addr) (n3 d3 : Nat) (h : GV w a1 n1 d1 a2 n2 d2 a3 n3 d3 G) :
    Calls Try.prog 58 #[.agg #[.slice a1 n1 d1, .slice a2 n2 d2, .slice a3 n3 d3]] w (FitP (SizesOk G) w) := by
  have hs : Hid (SizesOk G ↔ (1 ≤ (n1 : Int) ∧ (n1 : Int) ≤ 256) ∧ n2 ≤ 512 ∧ n3 ≤ 1024) := Lib.hid (by unfold SizesOk; rw [h.n, h.e, h.b]; omega)
  clear h
  by_cases c1 : 1 ≤ (n1 : Int) ∧ (n1 : Int) ≤ 256
  · have k1 : decide (1 ≤ (n1 : Int) ∧ (n1 : Int) ≤ 256) = true := by simpa using c1
    by_cases c2 : n2 ≤ 512
    · go_enter Try.func58, Try.ntmps58
      go_wp2_with (go_at_call 74; refine (within_any _ _ _ _).mono ?_; rintro e w' ⟨rfl, rfl⟩; rw [k1])
      go_ret
      exact ⟨decide ((n3 : Int) ≤ 1024), rfl, ⟨fun h => hs.out.2 ⟨c1, c2, (by have h' : (n3 : Int) ≤ 1024 := (by simpa using h); omega)⟩, fun h => by have := (hs.out.1 h).2.2; simp; omega⟩, (Mod.refl _ _).thenAlloc _⟩
    · go_enter Try.func58, Try.ntmps58
      go_wp2_with (go_at_call 74; refine (within_any _ _ _ _).mono ?_; rintro e w' ⟨rfl, rfl⟩; rw [k1])
      go_ret
      exact ⟨false, rfl, ⟨fun h => (by cases h), fun h => absurd (hs.out.1 h).2.1 (by omega)⟩, (Mod.refl _ _).thenAlloc _⟩
  · have k1 : decide (1 ≤ (n1 : Int) ∧ (n1 : Int) ≤ 256) = false := by simpa using c1
    go_enter Try.func58, Try.ntmps58
    go_wp2_with (go_at_call 74; refine (within_any _ _ _ _).mono ?_; rintro e w' ⟨rfl, rfl⟩; rw [k1])
    go_ret
    exact ⟨false, rfl, ⟨fun h => (by cases h), fun h => absurd (hs.out.1 h).1 c1⟩, (Mod.refl _ _).thenAlloc _⟩

theorem _root_.Mile.GV.keep {w w' : World} {a1 : Option Addr} {n1 d1 : Nat} {a2 : Option Addr} {n2 d2 : Nat} {a3 : Option Addr} {n3 d3 : Nat} {G : GD} (h : GV w a1 n1 d1 a2 n2 d2 a3 n3 d3 G) (hm : Mod (fun _ => False) w w') : GV w' a1 n1 d1 a2 n2 d2 a3 n3 d3 G :=
  ⟨h.n, h.e, h.b, h.rn.keepA hm (fun _ _ e => e.elim), h.re.keepA hm (fun _ _ e => e.elim), h.rb.keepA hm (fun _ _ e => e.elim)⟩

set_option maxHeartbeats 2000000 in
theorem fits_any (G : GD) (w : World) (a1 : Option Addr) (n1 d1 : Nat) (a2 : Option Addr) (n2 d2 : Nat) (a3 : Option Addr) (n3 d3 : Nat) (h : GV w a1 n1 d1 a2 n2 d2 a3 n3 d3 G) :
    Calls Try.prog 37 #[.agg #[.slice a1 n1 d1, .slice a2 n2 d2, .slice a3 n3 d3]] w (FitP (May G) w) := by
  have h0 := h.keep (Mod.alloc (fun _ => False) w (.cells #[.slice a1 n1 d1, .slice a2 n2 d2, .slice a3 n3 d3] 28))
  have hA0 := Mod.alloc (fun _ => False) w (.cells #[.slice a1 n1 d1, .slice a2 n2 d2, .slice a3 n3 d3] 28)
  obtain ⟨g, hg⟩ : ∃ g, w.heap.size = g := ⟨_, rfl⟩
  have hb0 : Blk (w.alloc (.cells #[.slice a1 n1 d1, .slice a2 n2 d2, .slice a3 n3 d3] 28)) g 28 [.slice a1 n1 d1, .slice a2 n2 d2, .slice a3 n3 d3] := by rw [← hg]; exact Blk.new w 28 [.slice a1 n1 d1, .slice a2 n2 d2, .slice a3 n3 d3]
  have HC : Hid (∀ W, Mod (fun _ => False) (w.alloc (.cells #[.slice a1 n1 d1, .slice a2 n2 d2, .slice a3 n3 d3] 28)) W → W.cell? ⟨g, 0, none⟩ = some (.slice a1 n1 d1) ∧ W.cell? ⟨g, 1, none⟩ = some (.slice a2 n2 d2) ∧ W.cell? ⟨g, 2, none⟩ = some (.slice a3 n3 d3)) := Lib.hid fun W hm => by
    have := hb0.keep hm (fun e => e)
    exact ⟨this.cell 0 rfl, this.cell 1 rfl, this.cell 2 rfl⟩
  clear hb0
  go_enter Try.func37, Try.ntmps37
  go_wp2_with fail
  clear hg
  obtain ⟨w0, hw0⟩ : ∃ w0, w.alloc (.cells #[.slice a1 n1 d1, .slice a2 n2 d2, .slice a3 n3 d3] 28) = w0 := ⟨_, rfl⟩
  rw [hw0] at h0 hA0 HC ⊢
  clear hw0
  refine (sizesFit_any G _ a1 n1 d1 a2 n2 d2 a3 n3 d3 h0).mono ?_
  rintro e w1 ⟨r1, rfl, h1', hM1'⟩
  have h1 := Lib.hid h1'
  clear h1'
  have hM1 := hA0.trans hM1' (H := fun _ => False) (fun _ _ e => e) (fun _ _ e => e)
  obtain ⟨e0, e1, e2⟩ := HC.out _ hM1'
  cases r1 with
  | false =>
    clear h h0 HC
    go_wp2_with fail
    go_ret
    exact ⟨false, rfl, ⟨fun h => (by cases h), fun hm => (by have := h1.out.2 hm.1; cases this)⟩, hM1⟩
  | true =>
    have hS := h1.out.1 rfl
    have hs1 : n1 ≤ 256 := by have := hS.1.2; rw [h.n] at this; exact this
    have hs2 : n2 ≤ 512 := by have := hS.2.1; rw [h.e] at this; exact this
    have hs3 : n3 ≤ 1024 := by have := hS.2.2; rw [h.b] at this; exact this
    clear h1
    go_wp2_with fail
    refine (nodesFit_any G _ a1 n1 d1 a2 n2 d2 a3 n3 d3 (h.keep hM1) hs1).mono ?_
    rintro e w2 ⟨r2, rfl, h2', hM2⟩
    have h2 := Lib.hid h2'
    clear h2'
    have hM2' := hM1'.trans hM2 (H := fun _ => False) (fun _ _ e => e) (fun _ _ e => e)
    clear e0 e1 e2
    obtain ⟨e0, e1, e2⟩ := HC.out _ hM2'
    have hM12 := hM1.trans hM2 (H := fun _ => False) (fun _ _ e => e) (fun _ _ e => e)
    cases r2 with
    | false =>
      clear h h0 HC
      go_wp2_with fail
      go_ret
      exact ⟨false, rfl, ⟨fun h => (by cases h), fun hm => (by have := h2.out.2 hm.2.1; cases this)⟩, hM12⟩
    | true =>
      have hN := h2.out.1 rfl
      clear h2
      go_wp2_with fail
      refine (edgesFit_any G _ a1 n1 d1 a2 n2 d2 a3 n3 d3 (h.keep hM12) hs1 hs2).mono ?_
      rintro e w3 ⟨r3, rfl, h3', hM3⟩
      have h3 := Lib.hid h3'
      clear h3'
      clear e0 e1 e2
      obtain ⟨e0, e1, e2⟩ := HC.out _ (hM2'.trans hM3 (H := fun _ => False) (fun _ _ e => e) (fun _ _ e => e))
      have hM13 := hM12.trans hM3 (H := fun _ => False) (fun _ _ e => e) (fun _ _ e => e)
      cases r3 with
      | false =>
        clear h h0 HC
        go_wp2_with fail
        go_ret
        exact ⟨false, rfl, ⟨fun h => (by cases h), fun hm => (by have := h3.out.2 hm.2.2.1; cases this)⟩, hM13⟩
      | true =>
        have hE := h3.out.1 rfl
        clear h3
        go_wp2_with fail
        refine (bansFit_any G _ a1 n1 d1 a2 n2 d2 a3 n3 d3 (h.keep hM13) hs2 hs3).mono ?_
        rintro e w4 ⟨r4, rfl, h4', hM4⟩
        have h4 := Lib.hid h4'
        clear h4'
        have hM14 := hM13.trans hM4 (H := fun _ => False) (fun _ _ e => e) (fun _ _ e => e)
        go_wp2_with fail
        go_ret
        exact ⟨r4, rfl, ⟨fun h => ⟨hS, hN, hE, h4.out.1 h⟩, fun hm => h4.out.2 hm.2.2.2⟩, hM14⟩
end Go.Proofs.Ytbjdjafkpldbnaa
namespace Mile
open Go Go.RowKit
theorem one2 (l : List P2) : ∀ u ∈ l.flatMap c2, u.oneCell' = true := by
  intro u hu
  obtain ⟨x, _, hx⟩ := List.mem_flatMap.1 hu
  simp only [c2, List.mem_cons, List.not_mem_nil, or_false] at hx
  rcases hx with rfl | rfl <;> rfl
theorem one3 (l : List P3) : ∀ u ∈ l.flatMap c3, u.oneCell' = true := by
  intro u hu
  obtain ⟨x, _, hx⟩ := List.mem_flatMap.1 hu
  simp only [c3, List.mem_cons, List.not_mem_nil, or_false] at hx
  rcases hx with rfl | rfl | rfl <;> rfl
theorem one1 (l : List Int) : ∀ u ∈ l.map (Value.int .i64), u.oneCell' = true := by
  intro u hu
  obtain ⟨x, _, rfl⟩ := List.mem_map.1 hu
  rfl
/-- A row in new memory of the call's own (or nil), that reads as the cells xs. -/
def CloneP (T : TypeId) (size n : Nat) (xs : List Value) (w : World) (e : Ending) (w' : World) : Prop :=
  ∃ a c, e = .returned (.slice a n c) ∧ w'.ownsRow w.heap.size T size (.slice a n c) n xs ∧ Mod (fun _ => False) w w'
end Mile
namespace Go.Proofs.Ytbjdjafkpldbnaa
open Go.RowKit Mile
set_option maxRecDepth 100000

set_option maxHeartbeats 1000000 in
theorem cloneN_any (w : World) (a : Option Addr) (n c : Nat) (xs : List P2) (hn : xs.length = n) (hrd : Rd w 2 (.slice a n c) n (xs.flatMap c2)) (hbd : n ≤ 1000000) :
    Calls Try.prog 62 #[.slice a n c] w (CloneP 78 2 n (xs.flatMap c2) w) := by
  obtain ⟨i0, hi, hz0, hz1, hz2⟩ := info_parts GR.infoN
  have heq := fun (wx : World) a n c => Lib.run_eql_slice_nil (P := Try.prog) wx 24 78 a n c 0 0 Try.underlying24
  have h1c := one2 xs
  have hm1 : 0 + n ≤ maxLen := by unfold maxLen; omega
  have hm2 : (0 + n) * 16 ≤ 140737488355328 := by omega
  have HX := Lib.hid hn
  clear hn
  cases a with
  | none =>
    have hz : n = 0 ∧ c = 0 := by obtain ⟨_, a', c', he, _, _, h3, _⟩ := hrd; cases he; exact h3 rfl
    obtain ⟨rfl, rfl⟩ := hz
    have hx0 : xs = [] := List.eq_nil_of_length_eq_zero HX.out
    subst hx0
    go_enter Try.func62, Try.ntmps62
    go_wp2
    go_ret
    exact ⟨_, _, rfl, World.ownsRow_nil _ _ _ _, Mod.refl _ _⟩
  | some ad =>
    go_enter Try.func62, Try.ntmps62
    have hown : (w.alloc (.cells #[] 78)).ownsRow 0 78 2 (.slice (some ⟨w.heap.size, 0, none⟩) 0 0) 0 [] := World.ownsRow_made w #[] 0 (Nat.zero_le _) (Nat.zero_le _) rfl
    go_wp2_with (at_builtin; refine wpList_append_any rfl (.tmp 5) (.tmp 6) 24 rfl 78 i0 (.agg #[.int .i64 0, .int .i64 0]) 2 16 Try.underlying24 hi hz0 hz1 hz2 rfl (by decide) _ 0 [] rfl hown _ n (xs.flatMap c2) rfl (hrd.alloc _) h1c hm1 hm2 ?_; intro v' w' hap)
    go_ret
    obtain ⟨a1, k1, hf⟩ := hap.form
    have ho := hap.own
    have hm := hap.mod
    have hr := hap.row
    simp only [Nat.zero_add, List.nil_append] at ho hf
    subst hf
    refine ⟨a1, k1, rfl, Own.rebase ho (fun k hk => ?_), (Mod.alloc _ w _).trans hm (fun _ _ e => e) (fun i hi e => ?_)⟩
    · rcases hr k hk with h | h
      · have e : w.heap.size = k := Option.some.inj h
        omega
      · have e : (w.alloc (.cells #[] 78)).heap.size = w.heap.size + 1 := by simp
        omega
    · have e' : w.heap.size = i := Option.some.inj e
      omega

set_option maxHeartbeats 1000000 in
theorem cloneE_any (w : World) (a : Option Addr) (n c : Nat) (xs : List P3) (hn : xs.length = n) (hrd : Rd w 3 (.slice a n c) n (xs.flatMap c3)) (hbd : n ≤ 1000000) :
    Calls Try.prog 63 #[.slice a n c] w (CloneP 43 3 n (xs.flatMap c3) w) := by
  obtain ⟨i0, hi, hz0, hz1, hz2⟩ := info_parts GR.infoE
  have heq := fun (wx : World) a n c => Lib.run_eql_slice_nil (P := Try.prog) wx 25 43 a n c 0 0 Try.underlying25
  have h1c := one3 xs
  have hm1 : 0 + n ≤ maxLen := by unfold maxLen; omega
  have hm2 : (0 + n) * 24 ≤ 140737488355328 := by omega
  have HX := Lib.hid hn
  clear hn
  cases a with
  | none =>
    have hz : n = 0 ∧ c = 0 := by obtain ⟨_, a', c', he, _, _, h3, _⟩ := hrd; cases he; exact h3 rfl
    obtain ⟨rfl, rfl⟩ := hz
    have hx0 : xs = [] := List.eq_nil_of_length_eq_zero HX.out
    subst hx0
    go_enter Try.func63, Try.ntmps63
    go_wp2
    go_ret
    exact ⟨_, _, rfl, World.ownsRow_nil _ _ _ _, Mod.refl _ _⟩
  | some ad =>
    go_enter Try.func63, Try.ntmps63
    have hown : (w.alloc (.cells #[] 43)).ownsRow 0 43 3 (.slice (some ⟨w.heap.size, 0, none⟩) 0 0) 0 [] := World.ownsRow_made w #[] 0 (Nat.zero_le _) (Nat.zero_le _) rfl
    go_wp2_with (at_builtin; refine wpList_append_any rfl (.tmp 5) (.tmp 6) 25 rfl 43 i0 (.agg #[.int .i64 0, .int .i64 0, .int .i64 0]) 3 24 Try.underlying25 hi hz0 hz1 hz2 rfl (by decide) _ 0 [] rfl hown _ n (xs.flatMap c3) rfl (hrd.alloc _) h1c hm1 hm2 ?_; intro v' w' hap)
    go_ret
    obtain ⟨a1, k1, hf⟩ := hap.form
    have ho := hap.own
    have hm := hap.mod
    have hr := hap.row
    simp only [Nat.zero_add, List.nil_append] at ho hf
    subst hf
    refine ⟨a1, k1, rfl, Own.rebase ho (fun k hk => ?_), (Mod.alloc _ w _).trans hm (fun _ _ e => e) (fun i hi e => ?_)⟩
    · rcases hr k hk with h | h
      · have e : w.heap.size = k := Option.some.inj h
        omega
      · have e : (w.alloc (.cells #[] 43)).heap.size = w.heap.size + 1 := by simp
        omega
    · have e' : w.heap.size = i := Option.some.inj e
      omega

set_option maxHeartbeats 1000000 in
theorem cloneB_any (w : World) (a : Option Addr) (n c : Nat) (xs : List P2) (hn : xs.length = n) (hrd : Rd w 2 (.slice a n c) n (xs.flatMap c2)) (hbd : n ≤ 1000000) :
    Calls Try.prog 64 #[.slice a n c] w (CloneP 81 2 n (xs.flatMap c2) w) := by
  obtain ⟨i0, hi, hz0, hz1, hz2⟩ := info_parts GR.infoB
  have heq := fun (wx : World) a n c => Lib.run_eql_slice_nil (P := Try.prog) wx 26 81 a n c 0 0 Try.underlying26
  have h1c := one2 xs
  have hm1 : 0 + n ≤ maxLen := by unfold maxLen; omega
  have hm2 : (0 + n) * 16 ≤ 140737488355328 := by omega
  have HX := Lib.hid hn
  clear hn
  cases a with
  | none =>
    have hz : n = 0 ∧ c = 0 := by obtain ⟨_, a', c', he, _, _, h3, _⟩ := hrd; cases he; exact h3 rfl
    obtain ⟨rfl, rfl⟩ := hz
    have hx0 : xs = [] := List.eq_nil_of_length_eq_zero HX.out
    subst hx0
    go_enter Try.func64, Try.ntmps64
    go_wp2
    go_ret
    exact ⟨_, _, rfl, World.ownsRow_nil _ _ _ _, Mod.refl _ _⟩
  | some ad =>
    go_enter Try.func64, Try.ntmps64
    have hown : (w.alloc (.cells #[] 81)).ownsRow 0 81 2 (.slice (some ⟨w.heap.size, 0, none⟩) 0 0) 0 [] := World.ownsRow_made w #[] 0 (Nat.zero_le _) (Nat.zero_le _) rfl
    go_wp2_with (at_builtin; refine wpList_append_any rfl (.tmp 5) (.tmp 6) 26 rfl 81 i0 (.agg #[.int .i64 0, .int .i64 0]) 2 16 Try.underlying26 hi hz0 hz1 hz2 rfl (by decide) _ 0 [] rfl hown _ n (xs.flatMap c2) rfl (hrd.alloc _) h1c hm1 hm2 ?_; intro v' w' hap)
    go_ret
    obtain ⟨a1, k1, hf⟩ := hap.form
    have ho := hap.own
    have hm := hap.mod
    have hr := hap.row
    simp only [Nat.zero_add, List.nil_append] at ho hf
    subst hf
    refine ⟨a1, k1, rfl, Own.rebase ho (fun k hk => ?_), (Mod.alloc _ w _).trans hm (fun _ _ e => e) (fun i hi e => ?_)⟩
    · rcases hr k hk with h | h
      · have e : w.heap.size = k := Option.some.inj h
        omega
      · have e : (w.alloc (.cells #[] 81)).heap.size = w.heap.size + 1 := by simp
        omega
    · have e' : w.heap.size = i := Option.some.inj e
      omega

set_option maxHeartbeats 1000000 in
theorem cloneI_any (w : World) (a : Option Addr) (n c : Nat) (xs : List Int) (hn : xs.length = n) (hrd : Rd w 1 (.slice a n c) n (xs.map (Value.int .i64))) (hbd : n ≤ 1000000) :
    Calls Try.prog 65 #[.slice a n c] w (CloneP 3 1 n (xs.map (Value.int .i64)) w) := by
  obtain ⟨i0, hi, hz0, hz1, hz2⟩ := info_parts GR.infoI
  have heq := fun (wx : World) a n c => Lib.run_eql_slice_nil (P := Try.prog) wx 22 3 a n c 0 0 Try.underlying22
  have h1c := one1 xs
  have hm1 : 0 + n ≤ maxLen := by unfold maxLen; omega
  have hm2 : (0 + n) * 8 ≤ 140737488355328 := by omega
  have HX := Lib.hid hn
  clear hn
  cases a with
  | none =>
    have hz : n = 0 ∧ c = 0 := by obtain ⟨_, a', c', he, _, _, h3, _⟩ := hrd; cases he; exact h3 rfl
    obtain ⟨rfl, rfl⟩ := hz
    have hx0 : xs = [] := List.eq_nil_of_length_eq_zero HX.out
    subst hx0
    go_enter Try.func65, Try.ntmps65
    go_wp2
    go_ret
    exact ⟨_, _, rfl, World.ownsRow_nil _ _ _ _, Mod.refl _ _⟩
  | some ad =>
    go_enter Try.func65, Try.ntmps65
    have hown : (w.alloc (.cells #[] 3)).ownsRow 0 3 1 (.slice (some ⟨w.heap.size, 0, none⟩) 0 0) 0 [] := World.ownsRow_made w #[] 0 (Nat.zero_le _) (Nat.zero_le _) rfl
    go_wp2_with (at_builtin; refine wpList_append_any rfl (.tmp 5) (.tmp 6) 22 rfl 3 i0 (.int .i64 0) 1 8 Try.underlying22 hi hz0 hz1 hz2 rfl (by decide) _ 0 [] rfl hown _ n (xs.map (Value.int .i64)) rfl (hrd.alloc _) h1c hm1 hm2 ?_; intro v' w' hap)
    go_ret
    obtain ⟨a1, k1, hf⟩ := hap.form
    have ho := hap.own
    have hm := hap.mod
    have hr := hap.row
    simp only [Nat.zero_add, List.nil_append] at ho hf
    subst hf
    refine ⟨a1, k1, rfl, Own.rebase ho (fun k hk => ?_), (Mod.alloc _ w _).trans hm (fun _ _ e => e) (fun i hi e => ?_)⟩
    · rcases hr k hk with h | h
      · have e : w.heap.size = k := Option.some.inj h
        omega
      · have e : (w.alloc (.cells #[] 3)).heap.size = w.heap.size + 1 := by simp
        omega
    · have e' : w.heap.size = i := Option.some.inj e
      omega
end Go.Proofs.Ytbjdjafkpldbnaa
namespace Go.Proofs.Ytbjdjafkpldbnaa
open Go.RowKit Mile
set_option maxRecDepth 100000
def NewOwn (B : Nat) (T : TypeId) (size n : Nat) (xs : List Value) : Value → World → Prop := fun v W => ∃ a c, v = .slice a n c ∧ W.ownsRow B T size (.slice a n c) n xs
/-- A graph's value, its rows in new memory (from B on) of one's own. -/
def NewGraph (B n1 n2 n3 : Nat) (G : GD) : Value → World → Prop := fun v W => ∃ x1 z1 x2 z2 x3 z3, v = .agg #[.slice x1 n1 z1, .slice x2 n2 z2, .slice x3 n3 z3] ∧
  W.ownsRow B 78 2 (.slice x1 n1 z1) n1 (G.N.flatMap c2) ∧ W.ownsRow B 43 3 (.slice x2 n2 z2) n2 (G.E.flatMap c3) ∧ W.ownsRow B 81 2 (.slice x3 n3 z3) n3 (G.B.flatMap c2)
def GCloneP (G : GD) (n1 n2 n3 : Nat) (w : World) (e : Ending) (w' : World) : Prop := ∃ v, e = .returned v ∧ NewGraph w.heap.size n1 n2 n3 G v w' ∧ Mod (fun _ => False) w w'

theorem start_any (x : P3) (w : World) : Calls Try.prog 40 #[.agg #[.int .i64 x.1, .int .i64 x.2.1, .int .i64 x.2.2]] w fun e w' => e = .returned (.int .i64 x.1) ∧ Mod (fun _ => False) w w' := by
  obtain ⟨x, y, z⟩ := x
  go_enter Try.func40, Try.ntmps40
  go_wp2_with fail
  go_ret
  exact ⟨rfl, (Mod.refl _ _).thenAlloc _⟩
theorem end_any (x : P3) (w : World) : Calls Try.prog 41 #[.agg #[.int .i64 x.1, .int .i64 x.2.1, .int .i64 x.2.2]] w fun e w' => e = .returned (.int .i64 x.2.1) ∧ Mod (fun _ => False) w w' := by
  obtain ⟨x, y, z⟩ := x
  go_enter Try.func41, Try.ntmps41
  go_wp2_with fail
  go_ret
  exact ⟨rfl, (Mod.refl _ _).thenAlloc _⟩

/-- What each operation of the statement leaves. -/
def gcl_F (B q : Nat) (a1 : Option Addr) (n1 d1 : Nat) (a2 : Option Addr) (n2 d2 : Nat) (a3 : Option Addr) (n3 d3 : Nat) (G : GD) : List (Bool × (Value → World → Prop)) :=
  [(true, IsV (.pointer (some ⟨q, 0, none⟩))),
   (true, IsV (.slice a1 n1 d1)),
   (false, NewOwn B 78 2 n1 (G.N.flatMap c2)),
   (true, IsV (.pointer (some ⟨q, 1, none⟩))),
   (true, IsV (.slice a2 n2 d2)),
   (false, NewOwn B 43 3 n2 (G.E.flatMap c3)),
   (true, IsV (.pointer (some ⟨q, 2, none⟩))),
   (true, IsV (.slice a3 n3 d3)),
   (false, NewOwn B 81 2 n3 (G.B.flatMap c2)),
   (false, NewGraph B n1 n2 n3 G)]
def gcl_D : List (List Nat) := [[], [0], [1], [], [3], [4], [], [6], [7], [2, 5, 8]]
def gcl_C : List Nat := [1000, 1000, 1000, 1000, 1000, 1000, 1000, 1000, 1000, 1000]
set_option maxHeartbeats 4000000 in
theorem gclone_any (G : GD) (w : World) (a1 : Option Addr) (n1 d1 : Nat) (a2 : Option Addr) (n2 d2 : Nat) (a3 : Option Addr) (n3 d3 : Nat) (h : GV w a1 n1 d1 a2 n2 d2 a3 n3 d3 G) (hb1 : n1 ≤ 1000000) (hb2 : n2 ≤ 1000000) (hb3 : n3 ≤ 1000000) :
    Calls Try.prog 38 #[.agg #[.slice a1 n1 d1, .slice a2 n2 d2, .slice a3 n3 d3]] w (GCloneP G n1 n2 n3 w) := by
  obtain ⟨g1, g2, g3, r1, r2, r3⟩ := h
  have HN1 := Lib.hid g1
  have HN2 := Lib.hid g2
  have HN3 := Lib.hid g3
  clear g1 g2 g3
  go_enter Try.func38, Try.ntmps38
  go_wp2_with fail
  obtain ⟨W0, hW0⟩ : ∃ W0, (w.alloc (.cells #[.slice a1 n1 d1, .slice a2 n2 d2, .slice a3 n3 d3] 28)).alloc (.cells #[.slice none 0 0, .slice none 0 0, .slice none 0 0] 28) = W0 := ⟨_, rfl⟩
  have hM0 : Mod (fun _ => False) w W0 := by rw [← hW0]; exact ((Mod.refl _ w).thenAlloc _).thenAlloc _
  obtain ⟨q, hq⟩ : ∃ q, w.heap.size = q := ⟨_, rfl⟩
  obtain ⟨s, hs⟩ : ∃ s, q + 1 = s := ⟨_, rfl⟩
  obtain ⟨t, ht⟩ : ∃ t, s + 1 = t := ⟨_, rfl⟩
  have hsz0 : W0.heap.size = t := by rw [← hW0]; simp; omega
  have hqb : Blk W0 q 28 [.slice a1 n1 d1, .slice a2 n2 d2, .slice a3 n3 d3] := by
    rw [← hW0, ← hq]; exact (Blk.new w 28 [.slice a1 n1 d1, .slice a2 n2 d2, .slice a3 n3 d3]).alloc _
  have hsb : Blk W0 s 28 [.slice none 0 0, .slice none 0 0, .slice none 0 0] := by
    have := Blk.new (w.alloc (.cells #[.slice a1 n1 d1, .slice a2 n2 d2, .slice a3 n3 d3] 28)) 28 [.slice none 0 0, .slice none 0 0, .slice none 0 0]
    rw [show (w.alloc (.cells #[.slice a1 n1 d1, .slice a2 n2 d2, .slice a3 n3 d3] 28)).heap.size = s by simp; omega] at this
    rw [← hW0]; exact this
  have HSB := Lib.hid hsb
  have HC : Hid (∀ W, Mod (fun k => t ≤ k) W0.drew W → W.cell? ⟨q, 0, none⟩ = some (.slice a1 n1 d1) ∧ W.cell? ⟨q, 1, none⟩ = some (.slice a2 n2 d2) ∧ W.cell? ⟨q, 2, none⟩ = some (.slice a3 n3 d3)) := Lib.hid fun W hm => by
    have h1 := hqb.drew.keep hm (by omega)
    exact ⟨h1.cell 0 rfl, h1.cell 1 rfl, h1.cell 2 rfl⟩
  have hMS : ∀ W, Mod (fun k => t ≤ k) W0.drew W → Mod (fun _ => False) w W := fun W hm => (hM0.thenDrew).trans hm (fun _ _ e => e) (fun i hi e => by show False; omega)
  have HR1 : Hid (∀ W, Mod (fun k => t ≤ k) W0.drew W → Rd W 2 (.slice a1 n1 d1) n1 (G.N.flatMap c2)) := Lib.hid fun W hm => r1.keepA (hMS W hm) (fun _ _ e => e.elim)
  have HR2 : Hid (∀ W, Mod (fun k => t ≤ k) W0.drew W → Rd W 3 (.slice a2 n2 d2) n2 (G.E.flatMap c3)) := Lib.hid fun W hm => r2.keepA (hMS W hm) (fun _ _ e => e.elim)
  have HR3 : Hid (∀ W, Mod (fun k => t ≤ k) W0.drew W → Rd W 2 (.slice a3 n3 d3) n3 (G.B.flatMap c2)) := Lib.hid fun W hm => r3.keepA (hMS W hm) (fun _ _ e => e.elim)
  have HSZ : Hid (∀ W, Mod (fun k => t ≤ k) W0.drew W → t ≤ W.heap.size) := Lib.hid fun W hm => by have := hm.size; rw [show W0.drew.heap.size = W0.heap.size from rfl] at this; omega
  have HMS := Lib.hid hMS
  rw [hW0, hq, hs]
  unfold GCloneP
  rw [hq]
  have HQ := Lib.hid hq
  have HS := Lib.hid hs
  have HT := Lib.hid ht
  clear ht hsz0
  clear hW0 hq hs r1 r2 r3 hqb hsb hMS
  have HST : ∀ (ix : Nat) (vx : Value) (wx wy : World), factOf (gcl_F t q a1 n1 d1 a2 n2 d2 a3 n3 d3 G) ix vx wx → Mod (fun _ => False) wx wy → factOf (gcl_F t q a1 n1 d1 a2 n2 d2 a3 n3 d3 G) ix vx wy := by
    refine fact_stays ?_
    intro f hf
    simp only [gcl_F, List.mem_cons, List.not_mem_nil, or_false] at hf
    rcases hf with rfl | rfl | rfl | rfl | rfl | rfl | rfl | rfl | rfl | rfl <;> first | exact stable_val _ | exact stable_new | exact (fun _ _ _ ⟨a, c, h1, h2⟩ hm => ⟨a, c, h1, Own.keep h2 hm (fun _ _ e => e)⟩) | exact (fun _ _ _ ⟨x1, z1, x2, z2, x3, z3, h, o1, o2, o3⟩ hm => ⟨x1, z1, x2, z2, x3, z3, h, Own.keep o1 hm (fun _ _ e => e), Own.keep o2 hm (fun _ _ e => e), Own.keep o3 hm (fun _ _ e => e)⟩)
  have HSO : ∀ px ∈ (gcl_F t q a1 n1 d1 a2 n2 d2 a3 n3 d3 G), px.1 = true → ∀ (vx : Value) (wx wy : World), px.2 vx wx → px.2 vx wy := by
    intro f hf
    simp only [gcl_F, List.mem_cons, List.not_mem_nil, or_false] at hf
    rcases hf with rfl | rfl | rfl | rfl | rfl | rfl | rfl | rfl | rfl | rfl <;> first | exact fun _ _ _ _ h => h | (intro h; cases h)
  refine wp_region_use (Mod (fun k => t ≤ k)) (factOf (gcl_F t q a1 n1 d1 a2 n2 d2 a3 n3 d3 G)) (fun i => gcl_C.getD i 1000) (fun i => gcl_D.getD i []) 10 _ rfl rfl (by kernel_rfl) (by kernel_rfl) (by kernel_rfl) (by kernel_rfl) (by kernel_rfl) (fun _ => Mod.refl _ _)
    (fun _ _ _ h k => h.trans k (fun _ _ e => e) (fun _ _ e => e)) ?_ ?_
  · refine opsOkU_cons ?_ ?_
    · intro K vs W hR hD hK
      clear hD
      simp only [putAll, Nat.zero_add, Nat.reduceAdd, Act.put, List.setIfInBounds_toArray, List.set_cons_succ, List.set_cons_zero] at hK ⊢
      go_wp2
      exact hK _ _ rfl (fun _ _ _ h => h) (Mod.refl _ _)
    refine opsOkU_cons ?_ ?_
    · intro K vs W hR hD hK
      have d0 : vs 0 = .pointer (some ⟨q, 0, none⟩) := hD 0 (by decide)
      clear hD
      simp only [putAll, Nat.zero_add, Nat.reduceAdd, Act.put, List.setIfInBounds_toArray, List.set_cons_succ, List.set_cons_zero] at hK ⊢
      generalize vs 0 = v0 at hK d0 ⊢
      subst d0
      obtain ⟨k1, k2, k3⟩ := HC.out W hR
      go_wp2
      exact hK _ _ rfl (fun _ _ _ h => h) (Mod.refl _ _)
    refine opsOkU_cons ?_ ?_
    · intro K vs W hR hD hK
      have d1 : vs 1 = .slice a1 n1 d1 := hD 1 (by decide)
      clear hD
      simp only [putAll, Nat.zero_add, Nat.reduceAdd, Act.put, List.setIfInBounds_toArray, List.set_cons_succ, List.set_cons_zero] at hK ⊢
      generalize vs 1 = v1 at hK d1 ⊢
      subst d1
      go_wp2_with (go_at_call 62; refine (cloneN_any _ _ _ _ G.N HN1.out (HR1.out W hR) hb1).mono ?_; rintro e' w' ⟨ax, cx, rfl, hox, hmx⟩)
      exact hK _ _ ⟨ax, cx, rfl, Own.base hox (HSZ.out W hR)⟩ (fun j u _ h => HST j u _ _ h hmx) (hmx.mono (fun _ _ e => e.elim))
    refine opsOkU_cons ?_ ?_
    · intro K vs W hR hD hK
      clear hD
      simp only [putAll, Nat.zero_add, Nat.reduceAdd, Act.put, List.setIfInBounds_toArray, List.set_cons_succ, List.set_cons_zero] at hK ⊢
      go_wp2
      exact hK _ _ rfl (fun _ _ _ h => h) (Mod.refl _ _)
    refine opsOkU_cons ?_ ?_
    · intro K vs W hR hD hK
      have d3 : vs 3 = .pointer (some ⟨q, 1, none⟩) := hD 3 (by decide)
      clear hD
      simp only [putAll, Nat.zero_add, Nat.reduceAdd, Act.put, List.setIfInBounds_toArray, List.set_cons_succ, List.set_cons_zero] at hK ⊢
      generalize vs 3 = v3 at hK d3 ⊢
      subst d3
      obtain ⟨k1, k2, k3⟩ := HC.out W hR
      go_wp2
      exact hK _ _ rfl (fun _ _ _ h => h) (Mod.refl _ _)
    refine opsOkU_cons ?_ ?_
    · intro K vs W hR hD hK
      have d4 : vs 4 = .slice a2 n2 d2 := hD 4 (by decide)
      clear hD
      simp only [putAll, Nat.zero_add, Nat.reduceAdd, Act.put, List.setIfInBounds_toArray, List.set_cons_succ, List.set_cons_zero] at hK ⊢
      generalize vs 4 = v4 at hK d4 ⊢
      subst d4
      go_wp2_with (go_at_call 63; refine (cloneE_any _ _ _ _ G.E HN2.out (HR2.out W hR) hb2).mono ?_; rintro e' w' ⟨ax, cx, rfl, hox, hmx⟩)
      exact hK _ _ ⟨ax, cx, rfl, Own.base hox (HSZ.out W hR)⟩ (fun j u _ h => HST j u _ _ h hmx) (hmx.mono (fun _ _ e => e.elim))
    refine opsOkU_cons ?_ ?_
    · intro K vs W hR hD hK
      clear hD
      simp only [putAll, Nat.zero_add, Nat.reduceAdd, Act.put, List.setIfInBounds_toArray, List.set_cons_succ, List.set_cons_zero] at hK ⊢
      go_wp2
      exact hK _ _ rfl (fun _ _ _ h => h) (Mod.refl _ _)
    refine opsOkU_cons ?_ ?_
    · intro K vs W hR hD hK
      have d6 : vs 6 = .pointer (some ⟨q, 2, none⟩) := hD 6 (by decide)
      clear hD
      simp only [putAll, Nat.zero_add, Nat.reduceAdd, Act.put, List.setIfInBounds_toArray, List.set_cons_succ, List.set_cons_zero] at hK ⊢
      generalize vs 6 = v6 at hK d6 ⊢
      subst d6
      obtain ⟨k1, k2, k3⟩ := HC.out W hR
      go_wp2
      exact hK _ _ rfl (fun _ _ _ h => h) (Mod.refl _ _)
    refine opsOkU_cons ?_ ?_
    · intro K vs W hR hD hK
      have d7 : vs 7 = .slice a3 n3 d3 := hD 7 (by decide)
      clear hD
      simp only [putAll, Nat.zero_add, Nat.reduceAdd, Act.put, List.setIfInBounds_toArray, List.set_cons_succ, List.set_cons_zero] at hK ⊢
      generalize vs 7 = v7 at hK d7 ⊢
      subst d7
      go_wp2_with (go_at_call 64; refine (cloneB_any _ _ _ _ G.B HN3.out (HR3.out W hR) hb3).mono ?_; rintro e' w' ⟨ax, cx, rfl, hox, hmx⟩)
      exact hK _ _ ⟨ax, cx, rfl, Own.base hox (HSZ.out W hR)⟩ (fun j u _ h => HST j u _ _ h hmx) (hmx.mono (fun _ _ e => e.elim))
    refine opsOkU_cons ?_ ?_
    · intro K vs W hR hD hK
      have d2 : (NewOwn t 78 2 n1 (G.N.flatMap c2)) (vs 2) W := hD 2 (by decide)
      have d5 : (NewOwn t 43 3 n2 (G.E.flatMap c3)) (vs 5) W := hD 5 (by decide)
      have d8 : (NewOwn t 81 2 n3 (G.B.flatMap c2)) (vs 8) W := hD 8 (by decide)
      clear hD
      simp only [putAll, Nat.zero_add, Nat.reduceAdd, Act.put, List.setIfInBounds_toArray, List.set_cons_succ, List.set_cons_zero] at hK ⊢
      generalize vs 2 = v2 at hK d2 ⊢
      generalize vs 5 = v5 at hK d5 ⊢
      generalize vs 8 = v8 at hK d8 ⊢
      obtain ⟨x1, z1, rfl, o1⟩ := d2
      obtain ⟨x2, z2, rfl, o2⟩ := d5
      obtain ⟨x3, z3, rfl, o3⟩ := d8
      go_wp2
      exact hK _ _ ⟨x1, z1, x2, z2, x3, z3, rfl, o1, o2, o3⟩ (fun _ _ _ h => h) (Mod.refl _ _)
    exact opsOkU_nil
  · intro vs W hR hF
    have d9 : (NewGraph t n1 n2 n3 G) (vs 9) W := hF 9 (by decide) (by decide)
    clear hF
    simp only [putAll, Nat.zero_add, Nat.reduceAdd, Act.put, List.setIfInBounds_toArray, List.set_cons_succ, List.set_cons_zero]
    generalize vs 9 = v9 at d9 ⊢
    obtain ⟨x1, z1, x2, z2, x3, z3, rfl, o1, o2, o3⟩ := d9
    have hb := HSB.out.drew.keep hR (by have := HT.out; omega)
    have c0 := hb.cell 0 rfl
    have c1 := hb.cell 1 rfl
    have c2' := hb.cell 2 rfl
    have f0 := hb.free 0
    have f1 := hb.free 1
    have f2 := hb.free 2
    have hlt := hb.lt
    go_wp2_with fail
    have hS : Mod (fun k => k = s) W (((W.setCell ⟨s, 0, none⟩ (.slice x1 n1 z1)).setCell ⟨s, 1, none⟩ (.slice x2 n2 z2)).setCell ⟨s, 2, none⟩ (.slice x3 n3 z3)) :=
      ((Mod.setCell (F := fun k => k = s) W ⟨s, 0, none⟩ _ rfl).thenSet ⟨s, 1, none⟩ _ (fun _ => rfl)).thenSet ⟨s, 2, none⟩ _ (fun _ => rfl)
    have hk : ∀ {T : TypeId} {size n : Nat} {v : Value} {xs : List Value}, W.ownsRow t T size v n xs → ∀ k, v.ownBlock = some k → ¬ (k = s) := fun h k hk e => by have := (World.ownsRow.lt h k hk).1; have := HT.out; omega
    have hq : w.heap.size ≤ t := by have := HQ.out; have := HS.out; have := HT.out; omega
    have hM := (HMS.out W hR).trans hS (H := fun _ => False) (fun _ _ e => e) (fun i hi e => by have := HQ.out; have := HS.out; show False; omega)
    have b2 := ((hb.set 0 (.slice x1 n1 z1)).set 1 (.slice x2 n2 z2)).set 2 (.slice x3 n3 z3)
    (try simp only [Exit.inBlock, Exit.then])
    refine bodyPost_ret (results_cell_row rfl _ _ s 28 #[.slice x1 n1 z1, .slice x2 n2 z2, .slice x3 n3 z3] (0, 0) _ rfl b2 Try.underlying28 rfl (by kernel_rfl)) rfl ?_
    exact ⟨_, rfl, ⟨x1, z1, x2, z2, x3, z3, rfl, Own.base (Own.keep o1 hS (hk o1)) (by have := HQ.out; omega), Own.base (Own.keep o2 hS (hk o2)) (by have := HQ.out; omega), Own.base (Own.keep o3 hS (hk o3)) (by have := HQ.out; omega)⟩, hM⟩
end Go.Proofs.Ytbjdjafkpldbnaa
namespace Mile
open Go Go.RowKit
theorem run_midS {P : Program} (w : World) (t e : TypeId) (i : TypeInfo) (size : Nat) (ht : P.underlying t = some (.slice e)) (hi : P.info? e = some i) (hs : i.size = size) (a : Option Addr) (len cap n m : Nat) (h1 : n ≤ m) (h2 : m ≤ cap) :
    (Instr.slice t (.slice a len cap) (some (.int .i64 (n : Int))) (some (.int .i64 (m : Int))) none).run P w = .ok (.slice (dropA a cap n size) (m - n) (cap - n)) w := by
  have k1 : (n : Int) ≤ (m : Int) := by omega
  have k2 : (m : Int) ≤ (cap : Int) := by omega
  simp [Instr.slice, run_underlying ht, Instr.sliceBounds, run_sliceBound, k1, k2, Go.sizeOf, typeInfo, hi, hs, dropA]
end Mile
namespace Mile
open Go Go.RowKit
/-- The numbers of those that are k, rising. -/
def idx (ks : List Int) (k : Int) : List Int := ((List.range ks.length).filter (fun i => ks.getD i (-1) == k)).map Int.ofNat
/-- A slice's block is one of those from B up to C. -/
def InB (B C : Nat) (v : Value) : Prop := ∀ k, v.ownBlock = some k → B ≤ k ∧ k < C
/-- The rows of the nodes, of edges that stand at the nodes ks. -/
structure RowD (w : World) (a : Option Addr) (n c : Nat) (b : Option Addr) (m d N : Nat) (ks : List Int) : Prop where
  rows : ∃ es fs : List Int, ∃ (_ : es.length = n) (hf : fs.length = m) (hm : m = N + 1), n = ks.length ∧ Rd w 1 (.slice a n c) n (es.map (Value.int .i64)) ∧ Rd w 1 (.slice b m d) m (fs.map (Value.int .i64)) ∧
    ∀ k (hk : k < N), ∃ lo hi : Nat, fs[k]'(by omega) = lo ∧ fs[k + 1]'(by omega) = hi ∧ lo ≤ hi ∧ hi ≤ n ∧ (es.take hi).drop lo = idx ks k
theorem RowD.keep {H : Nat → Prop} {w w' : World} {a : Option Addr} {n c : Nat} {b : Option Addr} {m d N : Nat} {ks : List Int} (h : RowD w a n c b m d N ks) (hm : Mod H w w') (h1 : ∀ k, (Value.slice a n c).ownBlock = some k → ¬ H k) (h2 : ∀ k, (Value.slice b m d).ownBlock = some k → ¬ H k) : RowD w' a n c b m d N ks := by
  obtain ⟨es, fs, he, hf, hmN, hn, hre, hrf, hall⟩ := h
  exact ⟨es, fs, he, hf, hmN, hn, hre.keep hm h1, hrf.keep hm h2, hall⟩
end Mile
namespace Go.Proofs.Ytbjdjafkpldbnaa
open Go.RowKit Mile
set_option maxRecDepth 100000

/-- A graph that stands for G, at block p, in blocks from B up to C. -/
structure GO (w : World) (p B C : Nat) (G : GD) : Prop where
  obj : ∃ (a1 : Option Addr) (n1 d1 : Nat) (a2 : Option Addr) (n2 d2 : Nat) (a3 : Option Addr) (n3 d3 : Nat) (a4 : Option Addr) (n4 d4 : Nat) (a5 : Option Addr) (n5 d5 : Nat) (a6 : Option Addr) (n6 d6 : Nat) (a7 : Option Addr) (n7 d7 : Nat),
    Blk w p 89 [.slice a1 n1 d1, .slice a2 n2 d2, .slice a3 n3 d3, .slice a4 n4 d4, .slice a5 n5 d5, .slice a6 n6 d6, .slice a7 n7 d7] ∧ GV w a1 n1 d1 a2 n2 d2 a3 n3 d3 G ∧
    RowD w a4 n4 d4 a5 n5 d5 G.N.length (G.E.map (·.1)) ∧ RowD w a6 n6 d6 a7 n7 d7 G.N.length (G.E.map (·.2.1)) ∧
    InB B C (.slice a1 n1 d1) ∧ InB B C (.slice a2 n2 d2) ∧ InB B C (.slice a3 n3 d3) ∧ InB B C (.slice a4 n4 d4) ∧ InB B C (.slice a5 n5 d5) ∧ InB B C (.slice a6 n6 d6) ∧ InB B C (.slice a7 n7 d7)
  at_ : B ≤ p ∧ p < C
  may : May G
  lt : C ≤ w.heap.size

theorem GO.keep {H : Nat → Prop} {w w' : World} {p B C : Nat} {G : GD} (h : GO w p B C G) (hm : Mod H w w') (hd : ∀ k, B ≤ k → k < C → ¬ H k) : GO w' p B C G := by
  obtain ⟨⟨a1, n1, d1, a2, n2, d2, a3, n3, d3, a4, n4, d4, a5, n5, d5, a6, n6, d6, a7, n7, d7, hb, hv, ho, hi, b1, b2, b3, b4, b5, b6, b7⟩, hat, hmay, hlt⟩ := h
  have k {v : Value} (hb : InB B C v) : ∀ k, v.ownBlock = some k → ¬ H k := fun k hk => hd k (hb k hk).1 (hb k hk).2
  exact ⟨⟨a1, n1, d1, a2, n2, d2, a3, n3, d3, a4, n4, d4, a5, n5, d5, a6, n6, d6, a7, n7, d7, hb.keep hm (hd p hat.1 hat.2), ⟨hv.n, hv.e, hv.b, hv.rn.keep hm (k b1), hv.re.keep hm (k b2), hv.rb.keep hm (k b3)⟩,
    ho.keep hm (k b4) (k b5), hi.keep hm (k b6) (k b7), b1, b2, b3, b4, b5, b6, b7⟩, hat, hmay, Nat.le_trans hlt hm.size⟩

theorem nodes_any (p B C : Nat) (w : World) (G : GD) (h : GO w p B C G) : Calls Try.prog 50 #[.pointer (some ⟨p, 0, none⟩)] w fun e w' => e = .returned (.int .i64 (G.N.length : Int)) ∧ w = w' := by
  obtain ⟨⟨a1, n1, d1, a2, n2, d2, a3, n3, d3, a4, n4, d4, a5, n5, d5, a6, n6, d6, a7, n7, d7, hb, hv, _⟩, _⟩ := h
  have c0 := hb.cell 0 rfl
  have hn := hv.n
  subst hn
  clear hb hv
  go_enter Try.func50, Try.ntmps50
  go_wp2_with fail
  go_ret
  exact ⟨rfl, rfl⟩
theorem edges_any (p B C : Nat) (w : World) (G : GD) (h : GO w p B C G) : Calls Try.prog 42 #[.pointer (some ⟨p, 0, none⟩)] w fun e w' => e = .returned (.int .i64 (G.E.length : Int)) ∧ w = w' := by
  obtain ⟨⟨a1, n1, d1, a2, n2, d2, a3, n3, d3, a4, n4, d4, a5, n5, d5, a6, n6, d6, a7, n7, d7, hb, hv, _⟩, _⟩ := h
  have c0 := hb.cell 1 rfl
  have hn := hv.e
  subst hn
  clear hb hv
  go_enter Try.func42, Try.ntmps42
  go_wp2_with fail
  go_ret
  exact ⟨rfl, rfl⟩
theorem nodes_nil (w : World) : Calls Try.prog 50 #[.pointer none] w fun e w' => e = .returned (.int .i64 0) ∧ w = w' := by
  go_enter Try.func50, Try.ntmps50
  go_wp2_with fail
  go_ret
  exact ⟨rfl, rfl⟩
end Go.Proofs.Ytbjdjafkpldbnaa
