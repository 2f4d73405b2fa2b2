/- The reference's server as far as chapter 29 asks: its memory, what it stands for. -/
import Derived.Test.YtfdmjnhhgcidbaaTbD
import Derived.Test.YtfdmjnhhgcidbaaRTm1
import Derived.Test.YtfdmjnhhgcidbaaRowT
import Derived.Test.YtfdmjnhhgcidbaaRegion6
import Derived.Test.YtfdmjnhhgcidbaaUdP
namespace Go.Proofs.Ytfdmjnhhgcidbaa
open Go.RowKit Mile
set_option maxRecDepth 100000
/-- One entry: its peer, its connection, its block, its Channel's. -/
structure SE where
  peer : Nat
  conn : Int
  eb : Nat
  cb : Nat
  r1 : Value
  r2 : Value
  r3 : Value
def seV (x : SE) : Value := .pointer (some ⟨x.eb, 0, none⟩)
/-- The Server's cells. -/
def svC (g1 g2 g3 xv : Value) (M : Nat) (row : Value) (gr : Nat → Int) : List Value :=
  [g1, g2, g3, .int .i64 (M : Int), .int .i64 1, .int .i64 0, .int .i64 1, .int .i64 1, .int .i64 1, .int .i64 0, xv, row] ++ row16 fun x => Value.int .i64 (gr x)
theorem svC_g (g1 g2 g3 xv : Value) (M : Nat) (row : Value) (gr : Nat → Int) {i : Nat} (h : i < 16) : (svC g1 g2 g3 xv M row gr)[12 + i]? = some (.int .i64 (gr i)) := by
  rcases below16 h with rfl | rfl | rfl | rfl | rfl | rfl | rfl | rfl | rfl | rfl | rfl | rfl | rfl | rfl | rfl | rfl <;> rfl
theorem svC_setG (g1 g2 g3 xv : Value) (M : Nat) (row : Value) (gr : Nat → Int) {i : Nat} (h : i < 16) (y : Int) : (svC g1 g2 g3 xv M row gr).set (12 + i) (.int .i64 y) = svC g1 g2 g3 xv M row (updT gr i y) := by
  rcases below16 h with rfl | rfl | rfl | rfl | rfl | rfl | rfl | rfl | rfl | rfl | rfl | rfl | rfl | rfl | rfl | rfl <;> rfl
theorem svC_setR (g1 g2 g3 xv : Value) (M : Nat) (row : Value) (gr : Nat → Int) (v : Value) : (svC g1 g2 g3 xv M row gr).set 11 v = svC g1 g2 g3 xv M v gr := rfl
/-- An entry as it lies. -/
structure SEin (w : World) (q : Nat) (x : SE) : Prop where
  e : Blk w x.eb 156 [.int .i64 (x.peer : Int), .pointer (some ⟨x.cb, 0, none⟩), .pointer none, .int .i64 0, .bool false]
  c : Blk w x.cb 59 [.int .i64 x.conn, x.r1, x.r2, x.r3]
  eq : x.eb ≠ q
  cq : x.cb ≠ q
theorem SEin.keep {w w' : World} {q : Nat} {x : SE} {G : Nat → Prop} (h : SEin w q x) (hm : Mod G w w') (hG : ∀ k, k < w.heap.size → G k → k = q) : SEin w' q x :=
  ⟨h.e.keep hm (fun g => h.eq (hG _ h.e.lt g)), h.c.keep hm (fun g => h.cq (hG _ h.c.lt g)), h.eq, h.cq⟩
/-- The reference's Server at block q: L is there. -/
structure SV (w : World) (q M : Nat) (a : Option Addr) (n c : Nat) (gr : Nat → Int) (L : List SE) : Prop where
  m1 : 1 ≤ M
  m16 : M ≤ 16
  len : L.length = n
  blk : ∃ g1 g2 g3 xv, Blk w q 106 (svC g1 g2 g3 xv M (.slice a n c) gr)
  rd : Rd w 1 (.slice a n c) n (L.map seV)
  ne : ∀ k, (Value.slice a n c).ownBlock = some k → k = q → n = 0
  ents : ∀ x ∈ L, SEin w q x
theorem sv_nil {L : List SE} (h : L.length = 0) : L.map seV = [] := by cases L with | nil => rfl | cons x l => cases h
section
variable {w : World} {q M : Nat} {a : Option Addr} {n c : Nat} {gr : Nat → Int} {L : List SE}
theorem SV.lt (h : SV w q M a n c gr L) : q < w.heap.size := by obtain ⟨_, _, _, _, hb⟩ := h.blk; exact hb.lt
theorem SV.keep {w' : World} {G : Nat → Prop} (h : SV w q M a n c gr L) (hm : Mod G w w') (hq : ¬ G q) (hr : ∀ k, (Value.slice a n c).ownBlock = some k → G k → n = 0) (hE : ∀ x ∈ L, ¬ G x.eb ∧ ¬ G x.cb) : SV w' q M a n c gr L :=
  ⟨h.m1, h.m16, h.len, by obtain ⟨g1, g2, g3, xv, hb⟩ := h.blk; exact ⟨g1, g2, g3, xv, hb.keep hm hq⟩, h.rd.keepA hm (fun k hk g => sv_nil (by rw [h.len]; exact hr k hk g)), h.ne, fun x hx => ⟨(h.ents x hx).e.keep hm (hE x hx).1, (h.ents x hx).c.keep hm (hE x hx).2, (h.ents x hx).eq, (h.ents x hx).cq⟩⟩
theorem SV.later {w' : World} (h : SV w q M a n c gr L) (hm : Mod (fun _ => False) w w') : SV w' q M a n c gr L := h.keep hm (fun e => e) (fun _ _ e => e.elim) (fun _ _ => ⟨fun e => e, fun e => e⟩)
theorem SV.cellG (h : SV w q M a n c gr L) {i : Nat} (hi : i < 16) : w.cell? ⟨q, 12 + i, none⟩ = some (.int .i64 (gr i)) := by obtain ⟨g1, g2, g3, xv, hb⟩ := h.blk; exact hb.cell (12 + i) (svC_g _ _ _ _ _ _ _ hi)
theorem SV.cellR (h : SV w q M a n c gr L) : w.cell? ⟨q, 11, none⟩ = some (.slice a n c) := by obtain ⟨g1, g2, g3, xv, hb⟩ := h.blk; exact hb.cell 11 rfl
theorem SV.cellM (h : SV w q M a n c gr L) : w.cell? ⟨q, 3, none⟩ = some (.int .i64 (M : Int)) := by obtain ⟨g1, g2, g3, xv, hb⟩ := h.blk; exact hb.cell 3 rfl
theorem SV.free (h : SV w q M a n c gr L) (i : Nat) : w.frozen? ⟨q, i, none⟩ = false := by obtain ⟨g1, g2, g3, xv, hb⟩ := h.blk; exact hb.free i
/-- An element: its place, its entry's cells. -/
theorem SV.at_ (h : SV w q M a n c gr L) (j : Nat) (hj : j < L.length) : ∃ b o, elemA a j 1 = ⟨b, o, none⟩ ∧ w.cell? ⟨b, o, none⟩ = some (.pointer (some ⟨L[j].eb, 0, none⟩)) ∧ w.cell? ⟨L[j].eb, 0, none⟩ = some (.int .i64 (L[j].peer : Int)) ∧ w.cell? ⟨L[j].eb, 1, none⟩ = some (.pointer (some ⟨L[j].cb, 0, none⟩)) ∧ w.cell? ⟨L[j].cb, 0, none⟩ = some (.int .i64 L[j].conn) := by
  obtain ⟨b, o, hp, _⟩ := h.rd.place (j := j) (by rw [← h.len]; exact hj)
  have hc := h.rd.elem (j := j) (u := .pointer (some ⟨L[j].eb, 0, none⟩)) (by rw [List.getElem?_map, List.getElem?_eq_getElem hj]; rfl)
  rw [hp] at hc
  have he := h.ents _ (List.getElem_mem hj)
  exact ⟨b, o, hp, hc, he.e.cell 0 rfl, he.e.cell 1 rfl, he.c.cell 0 rfl⟩
end
/-- The reference's list, by who is there. -/
structure SvR (es : Nat → TbE) (gr : Nat → Int) (L : List SE) : Prop where
  ps : L.map (·.peer) = liveN es 16
  cs : ∀ x ∈ L, x.conn = gr x.peer
theorem SvR.len {es : Nat → TbE} {gr : Nat → Int} {L : List SE} (h : SvR es gr L) : L.length = (liveN es 16).length := by rw [← h.ps, List.length_map]
theorem SvR.mem {es : Nat → TbE} {gr : Nat → Int} {L : List SE} (h : SvR es gr L) {i : Nat} (hi : i < 16) : (es i).isSome = true ↔ ∃ x ∈ L, x.peer = i := by
  have h1 : i ∈ L.map (·.peer) ↔ i < 16 ∧ (es i).isSome = true := by rw [h.ps]; exact mem_liveN
  rw [List.mem_map] at h1
  exact ⟨fun e => h1.2 ⟨hi, e⟩, fun e => (h1.1 e).2⟩
theorem SvR.lt {es : Nat → TbE} {gr : Nat → Int} {L : List SE} (h : SvR es gr L) {x : SE} (hx : x ∈ L) : x.peer < 16 := by
  have h1 : x.peer ∈ liveN es 16 := by rw [← h.ps]; exact List.mem_map_of_mem hx
  exact (mem_liveN.1 h1).1
theorem SvR.rise {es : Nat → TbE} {gr : Nat → Int} {L : List SE} (h : SvR es gr L) : (L.map (·.peer)).Pairwise (· < ·) := by rw [h.ps]; exact liveN_rise es 16
theorem SvR.nil : SvR (fun _ => none) (fun _ => 0) [] := ⟨rfl, fun x hx => by simp at hx⟩
/-- Rising lists of the same numbers are one. -/
theorem rise_eq {l k : List Nat} (h1 : l.Pairwise (· < ·)) (h2 : k.Pairwise (· < ·)) (h : ∀ x, x ∈ l ↔ x ∈ k) : l = k := by
  have n1 : l.Nodup := h1.imp (fun h => by omega)
  have n2 : k.Nodup := h2.imp (fun h => by omega)
  refine List.Perm.eq_of_pairwise (le := (· ≤ ·)) (fun a b _ _ h1 h2 => by omega) (h1.imp (fun h => by omega)) (h2.imp (fun h => by omega)) ?_
  rw [List.perm_iff_count]
  intro x
  rw [n1.count, n2.count]
  simp only [h x]
def dropS (L : List SE) (p : Int) : List SE := L.filter fun x => decide ((x.peer : Int) ≠ p)
theorem SvR.drop {es : Nat → TbE} {gr : Nat → Int} {L : List SE} (h : SvR es gr L) (p : Int) : SvR (dropE es [p]) gr (dropS L p) := by
  refine ⟨rise_eq ?_ (liveN_rise _ _) fun x => ?_, fun x hx => h.cs x (List.mem_filter.1 hx).1⟩
  · have := h.rise
    unfold dropS
    exact List.Pairwise.sublist (List.Sublist.map _ List.filter_sublist) this
  · rw [List.mem_map, mem_liveN]
    unfold dropS dropE
    constructor
    · rintro ⟨y, hy, rfl⟩
      rw [List.mem_filter] at hy
      have h3 := of_decide_eq_true hy.2
      have h4 := h.lt hy.1
      rw [if_neg (by simpa using h3)]
      exact ⟨h4, (h.mem h4).2 ⟨y, hy.1, rfl⟩⟩
    · rintro ⟨h3, h4⟩
      by_cases e : (x : Int) ∈ [p]
      · rw [if_pos e] at h4; cases h4
      · rw [if_neg e] at h4
        obtain ⟨y, hy, rfl⟩ := (h.mem h3).1 h4
        exact ⟨y, List.mem_filter.2 ⟨hy, decide_eq_true (by simpa using e)⟩, rfl⟩
theorem SvR.put {es : Nat → TbE} {gr : Nat → Int} {L : List SE} {i : Nat} (h : SvR es gr L) (hi : i < 16) (c : Int) (y : Nat × Value) {A Q : List SE} (hAQ : dropS L (i : Int) = A ++ Q) (x : SE) (hx : x.peer = i) (hxc : x.conn = c) (hA : ∀ z ∈ A, z.peer < i) (hQ : ∀ z ∈ Q, i < z.peer) : SvR (updT es i (some y)) (updT gr i c) (A ++ x :: Q) := by
  have hd := h.drop (i : Int)
  rw [hAQ] at hd
  have hr := hd.rise
  rw [List.map_append, List.pairwise_append] at hr
  refine ⟨rise_eq ?_ (liveN_rise _ _) fun z => ?_, fun z hz => ?_⟩
  · rw [List.map_append, List.map_cons, List.pairwise_append, List.pairwise_cons]
    refine ⟨hr.1, ⟨fun s hs => ?_, hr.2.1⟩, fun s hs t ht => ?_⟩
    · obtain ⟨z, hz, rfl⟩ := List.mem_map.1 hs; rw [hx]; exact hQ z hz
    · obtain ⟨z, hz, rfl⟩ := List.mem_map.1 hs
      rcases List.mem_cons.1 ht with rfl | ht
      · rw [hx]; exact hA z hz
      · exact hr.2.2 _ (List.mem_map_of_mem hz) _ ht
  · rw [mem_liveN]
    have hm := fun j hj => hd.mem (i := j) hj
    by_cases e : z = i
    · subst e
      rw [updT_at]
      exact ⟨fun _ => ⟨hi, rfl⟩, fun _ => List.mem_map.2 ⟨x, by simp, hx⟩⟩
    · rw [updT_ne _ _ e]
      constructor
      · intro hz
        obtain ⟨u, hu, rfl⟩ := List.mem_map.1 hz
        rw [List.mem_append, List.mem_cons] at hu
        have hu2 : u ∈ A ++ Q := by
          rcases hu with hu | rfl | hu
          · exact List.mem_append.2 (.inl hu)
          · exact absurd hx e
          · exact List.mem_append.2 (.inr hu)
        have hlt := hd.lt hu2
        have h5 := (hm _ hlt).2 ⟨u, hu2, rfl⟩
        unfold dropE at h5
        rw [if_neg (by simp; omega)] at h5
        exact ⟨hlt, h5⟩
      · rintro ⟨h3, h4⟩
        obtain ⟨u, hu, rfl⟩ := (hm z h3).1 (by unfold dropE; rw [if_neg (by simp; omega)]; exact h4)
        refine List.mem_map_of_mem ?_
        rw [List.mem_append] at hu
        rw [List.mem_append, List.mem_cons]
        exact hu.elim .inl (fun g => .inr (.inr g))
  · rw [List.mem_append, List.mem_cons] at hz
    have hold : ∀ u ∈ A ++ Q, u.conn = updT gr i c u.peer := fun u hu => by
      have hne : u.peer ≠ i := by
        rcases List.mem_append.1 hu with hu | hu
        · have := hA u hu; omega
        · have := hQ u hu; omega
      rw [updT_ne _ _ hne]; exact hd.cs u hu
    rcases hz with hz | rfl | hz
    · exact hold z (List.mem_append.2 (.inl hz))
    · rw [hx, updT_at]; exact hxc
    · exact hold z (List.mem_append.2 (.inr hz))
end Go.Proofs.Ytfdmjnhhgcidbaa
