/- One Channel made since w0; rows of datagrams element by element. -/
import Derived.Test.YtdahoecejnnjkaaChL
namespace Go.Proofs.Ytdahoecejnnjkaa
open Go.RowKit Mile Go.Maps
set_option maxRecDepth 100000
theorem lit_byte (w : World) (T : TypeId) (g : Nat) (x : Value) (hg : g = w.heap.size) : (w.alloc (.cells #[x] T)).ownsRow 0 T 1 (.slice (some ⟨g, 0, none⟩) 1 1) 1 [x] := by
  subst hg; exact World.ownsRow_lit (base := 0) (e := T) (size := 1) w #[x] 1 (Nat.zero_le _) (by decide) (by simp)
/-- A datagram in a row. -/
theorem dgR_at (conn : Int) : ∀ (l : List (Dg × Value)) (i : Nat) (hi : i < l.length), (dgR conn l)[i * 6 + 0]? = some (.int .i64 conn) ∧ (dgR conn l)[i * 6 + 1]? = some (.int .i64 l[i].1.k) ∧ (dgR conn l)[i * 6 + 2]? = some (.int .i64 l[i].1.q) ∧ (dgR conn l)[i * 6 + 3]? = some (.int .i64 l[i].1.a) ∧ (dgR conn l)[i * 6 + 4]? = some (.int .i64 0) ∧ (dgR conn l)[i * 6 + 5]? = some l[i].2
  | [], i, hi => by simp at hi
  | u :: l, 0, _ => ⟨rfl, rfl, rfl, rfl, rfl, rfl⟩
  | u :: l, i + 1, hi => by
    have h := dgR_at conn l i (by simpa using hi)
    have e : ∀ k, (dgR conn (u :: l))[(i + 1) * 6 + k]? = (dgR conn l)[i * 6 + k]? := fun k => by
      show (dgC conn u.1 u.2 ++ dgR conn l)[(i + 1) * 6 + k]? = _
      rw [List.getElem?_append_right (by simp [dgC]; omega)]
      congr 1
      simp [dgC]; omega
    simp only [e]
    exact h
theorem OutL.elem {B0 : Nat} {w : World} {conn : Int} {ds : List Dg} {a : Option Addr} {n c : Nat} {gl : List (Dg × Value)} (h : OutL B0 w conn ds a n c gl) (i : Nat) (d : Dg) (hd : ds[i]? = some d) :
    ∃ b o v, elemA a i 6 = ⟨b, o, none⟩ ∧ a ≠ none ∧ i < n ∧ n ≤ c ∧ w.cell? ⟨b, o, none⟩ = some (.int .i64 conn) ∧ w.cell? ⟨b, o + 1, none⟩ = some (.int .i64 d.k) ∧ w.cell? ⟨b, o + 2, none⟩ = some (.int .i64 d.q) ∧ w.cell? ⟨b, o + 3, none⟩ = some (.int .i64 d.a) ∧ w.cell? ⟨b, o + 4, none⟩ = some (.int .i64 0) ∧ w.cell? ⟨b, o + 5, none⟩ = some v ∧ BodyT w d.b v := by
  have hi : i < ds.length := by rcases Nat.lt_or_ge i ds.length with h | h; exact h; rw [List.getElem?_eq_none h] at hd; cases hd
  have hgl : gl.length = ds.length := by rw [← h.eq, List.length_map]
  have hr := Rd.ofOwn h.own
  obtain ⟨b, o, hp, _⟩ := hr.place (j := i) (by rw [← h.len]; exact hi)
  obtain ⟨g0, g1, g2, g3, g4, g5⟩ := dgR_at conn gl i (by omega)
  have hde : (gl[i]'(by omega)).1 = d := by
    have h1 : (gl.map (·.1))[i]? = some d := by rw [h.eq]; exact hd
    rw [List.getElem?_map, List.getElem?_eq_getElem (by omega)] at h1
    exact Option.some.inj h1
  rw [hde] at g1 g2 g3
  refine ⟨b, o, (gl[i]'(by omega)).2, hp, hr.some_ (by have := h.len; omega), by rw [← h.len]; exact hi, rd_cap hr, by have := hr.elemN hp 0 g0; simpa using this, hr.elemN hp 1 g1, hr.elemN hp 2 g2, hr.elemN hp 3 g3, hr.elemN hp 4 g4, hr.elemN hp 5 g5, ?_⟩
  have hb := (h.bodies _ (List.getElem_mem (by omega : i < gl.length))).1
  rwa [hde] at hb
/-- One Channel made since w0. -/
def C1 (w0 w : World) (p W B M R : Nat) (conn : Int) (x : ChS) : Prop := ∃ F, CO w p W B M R conn x F ∧ (∀ k, F k → w0.heap.size ≤ k) ∧ Mod (fun _ => False) w0 w
/-- Which blocks a call may turn: the Channel's own. -/
def MC (w0 w w' : World) : Prop := ∃ G : Nat → Prop, Mod G w w' ∧ (∀ k, G k → w0.heap.size ≤ k ∧ NoT w k ∧ ¬ TyB w k 40)
section
variable {w0 w w' : World} {p W B M R : Nat} {conn : Int} {x y : ChS}
theorem C1.mod (h : C1 w0 w p W B M R conn x) : Mod (fun _ => False) w0 w := by obtain ⟨_, _, _, h⟩ := h; exact h
theorem C1.later (h : C1 w0 w p W B M R conn x) (hm : Mod (fun _ => False) w w') : C1 w0 w' p W B M R conn x := by
  obtain ⟨F, h1, h2, h3⟩ := h
  exact ⟨F, h1.later hm, h2, h3.of2 hm⟩
theorem Ev.c1 (h : C1 w0 w p W B M R conn x) : Ev (fun w' => C1 w0 w' p W B M R conn x) w := fun _ m => h.later m
theorem C1.w16 (h : C1 w0 w p W B M R conn x) : 1 ≤ W ∧ W ≤ 16 ∧ x.bs.length ≤ W := by obtain ⟨_, h, _⟩ := h; exact h.w16
theorem C1.turn {F : Nat → Prop} (h : CO w p W B M R conn x F) (h2 : ∀ k, F k → w0.heap.size ≤ k) (h3 : Mod (fun _ => False) w0 w) (hq : CQ p W B M R conn y F w w') : C1 w0 w' p W B M R conn y ∧ MC w0 w w' := by
  obtain ⟨F', g1, g2, g3⟩ := hq
  have hs := h3.size
  exact ⟨⟨F', g1, fun k hk => (g2 k hk).elim (h2 k) (fun e => by omega), h3.old g3 h2⟩, F, g3, fun k hk => ⟨h2 k hk, h.noT k hk, fun e => h.gram k e hk⟩⟩
theorem OutL.mc {B0 : Nat} {ds : List Dg} {a : Option Addr} {n c : Nat} {gl : List (Dg × Value)} {cn : Int} (h : OutL B0 w cn ds a n c gl) (hm : MC w0 w w') : OutL B0 w' cn ds a n c gl := by
  obtain ⟨G, h1, h2⟩ := hm
  exact h.keep h1 (fun k hk e => (h2 k e).2.2 (h.ty hk)) (fun k _ e => (h2 k e).2.1)
theorem OutG.mc {B0 : Nat} {ds : List Dg} {v : Value} {cn : Int} (h : OutG B0 w cn ds v) (hm : MC w0 w w') : OutG B0 w' cn ds v := by
  obtain ⟨a, n, c, gl, h1, h2⟩ := h
  exact ⟨a, n, c, gl, h1, h2.mc hm⟩
theorem OutG.later {B0 : Nat} {ds : List Dg} {v : Value} {cn : Int} (h : OutG B0 w cn ds v) (hm : Mod (fun _ => False) w w') : OutG B0 w' cn ds v := by
  obtain ⟨a, n, c, gl, h1, h2⟩ := h
  exact ⟨a, n, c, gl, h1, h2.keep hm (fun _ _ e => e) (fun _ _ e => e.elim)⟩
theorem OutG.form {B0 : Nat} {ds : List Dg} {v : Value} {cn : Int} (h : OutG B0 w cn ds v) (n : Nat) (hn : ds.length = n) : ∃ a c gl, v = .slice a n c ∧ OutL B0 w cn ds a n c gl := by
  obtain ⟨a, n', c, gl, h1, h2⟩ := h
  obtain rfl : n' = n := by rw [← h2.len]; exact hn
  exact ⟨a, c, gl, h1, h2⟩
theorem GotG.form {gs : List (List Int)} {v : Value} (h : GotG w gs v) (n : Nat) (hn : gs.length = n) : ∃ a c, v = .slice a n c := by
  obtain ⟨a, n', c, vs, h1, h2, _⟩ := h
  subst hn h2
  exact ⟨a, c, h1⟩
theorem c1_made {p sp tp kp kr : Nat} (h : CNew w w' p sp tp kp kr W B M R conn) (hm : Mod (fun _ => False) w0 w) : C1 w0 w' p W B M R conn ⟨0, false, [], [], 0, fun _ => none, []⟩ := by
  refine ⟨_, ⟨sp, tp, none, none, 0, [], kp, kr, none, 0, [], h.chm, rfl⟩, fun k hk => ?_, hm.of2 h.md⟩
  have := hm.size
  obtain ⟨l1, l2, l3, l4, l5⟩ := h.lo
  rcases hk with rfl | hk | rfl | rfl | hk
  · omega
  · rcases hk with rfl | hk | hk
    · omega
    · rcases hk with rfl | hk
      · omega
      · cases hk
    · cases hk
  · omega
  · omega
  · cases hk
theorem c1_push (h : C1 w0 w p W B M R conn x) (ho : x.o = false) (hb : ChB x) (h64 : x.os.length < 64) (now : Int) (hnow : 0 ≤ now ∧ now ≤ 1048576) (b : List Int) (bv : Value) (nb : Nat) (hn : b.length = nb) (hrd : Rd w 1 bv nb (b.map (Value.int .u8))) (hbl : nb ≤ 100000) :
    Calls Try.prog 13 #[.pointer (some ⟨p, 0, none⟩), .int .i64 now, bv] w fun e w' => ∃ v, e = .returned (.tuple #[v, .int .i64 0]) ∧ OutG w.heap.size w' conn (payD W (oweS x b)) v ∧ C1 w0 w' p W B M R conn (payC W B now (oweS x b)) ∧ MC w0 w w' := by
  obtain ⟨F, h1, h2, h3⟩ := h
  refine (co_push h1 ho hb h64 now hnow b bv nb hn hrd hbl).mono ?_
  rintro e w' ⟨v, he, hv, hq⟩
  exact ⟨v, he, hv, C1.turn h1 h2 h3 hq⟩
theorem c1_full (h : C1 w0 w p W B M R conn x) (ho : x.o = false) (h64 : 64 ≤ x.os.length) (now : Int) (v : Value) : Calls Try.prog 13 #[.pointer (some ⟨p, 0, none⟩), .int .i64 now, v] w fun e w' => e = .returned (.tuple #[.slice none 0 0, .int .i64 5]) ∧ w = w' := by
  obtain ⟨F, h1, _⟩ := h; exact co_full h1 ho h64 now v
theorem c1_push_over (h : C1 w0 w p W B M R conn x) (ho : x.o = true) (now : Int) (v : Value) : Calls Try.prog 13 #[.pointer (some ⟨p, 0, none⟩), .int .i64 now, v] w fun e w' => e = .returned (.tuple #[.slice none 0 0, .int .i64 6]) ∧ w = w' := by
  obtain ⟨F, h1, _⟩ := h; exact co_push_over h1 ho now v
theorem c1_owed (h : C1 w0 w p W B M R conn x) : Calls Try.prog 21 #[.pointer (some ⟨p, 0, none⟩)] w fun e w' => e = .returned (.int .i64 (x.os.length : Int)) ∧ w = w' := by
  obtain ⟨F, h1, _⟩ := h; exact co_owed h1
theorem c1_conn (h : C1 w0 w p W B M R conn x) : Calls Try.prog 22 #[.pointer (some ⟨p, 0, none⟩)] w fun e w' => e = .returned (.int .i64 conn) ∧ w = w' := by
  obtain ⟨F, h1, _⟩ := h; exact co_conn h1
theorem c1_ack (h : C1 w0 w p W B M R conn x) (ho : x.o = false) (hb : ChB x) (now : Int) (hnow : 0 ≤ now ∧ now ≤ 1048576) (gs ga gc : Int) (ab : Option Addr) (nb cb : Nat) :
    Calls Try.prog 15 #[.pointer (some ⟨p, 0, none⟩), .int .i64 now, .agg #[.int .i64 conn, .int .i64 2, .int .i64 gs, .int .i64 ga, .int .i64 gc, .slice ab nb cb]] w fun e w' => ∃ v, e = .returned (.tuple #[.slice none 0 0, v]) ∧ OutG w.heap.size w' conn (payD W (ackC x (ackN x ga))) v ∧ C1 w0 w' p W B M R conn (payC W B now (ackC x (ackN x ga))) ∧ MC w0 w w' := by
  obtain ⟨F, h1, h2, h3⟩ := h
  refine (co_ack h1 ho hb now hnow gs ga gc ab nb cb).mono ?_
  rintro e w' ⟨v, he, hv, hq⟩
  exact ⟨v, he, hv, C1.turn h1 h2 h3 hq⟩
theorem c1_data (h : C1 w0 w p W B M R conn x) (ho : x.o = false) (hb : ChB x) (now : Int) (hnow : 0 ≤ now ∧ now ≤ 1048576) (gs ga gc : Int) (ab : Option Addr) (nb cb : Nat) (bl : List Int) (hbl : bl.length = nb) (hrd : BodyT w bl (.slice ab nb cb)) (hnb : nb ≤ 100000) (y z : ChS) (gt : List (List Int)) (hy : ackC x (ackN x ga) = y) (hz : takeC y W gs bl = z) (hg : takeL y W gs bl = gt) :
    Calls Try.prog 15 #[.pointer (some ⟨p, 0, none⟩), .int .i64 now, .agg #[.int .i64 conn, .int .i64 1, .int .i64 gs, .int .i64 ga, .int .i64 gc, .slice ab nb cb]] w fun e w' => ∃ u v, e = .returned (.tuple #[u, v]) ∧ GotG w' gt u ∧ OutG w.heap.size w' conn (⟨2, 0, (z.N : Int), []⟩ :: payD W z) v ∧ C1 w0 w' p W B M R conn (payC W B now z) ∧ MC w0 w w' := by
  subst hy hz hg
  obtain ⟨F, h1, h2, h3⟩ := h
  refine (co_data h1 ho hb now hnow gs ga gc ab nb cb bl hbl hrd hnb).mono ?_
  rintro e w' ⟨u, v, he, hu, hv, hq⟩
  exact ⟨u, v, he, hu, hv, C1.turn h1 h2 h3 hq⟩
theorem c1_no (h : C1 w0 w p W B M R conn x) (now gn gk gs ga gc : Int) (ab : Option Addr) (nb cb : Nat) (hno : x.o = true ∨ gn ≠ conn ∨ (gk ≠ 1 ∧ gk ≠ 2)) :
    Calls Try.prog 15 #[.pointer (some ⟨p, 0, none⟩), .int .i64 now, .agg #[.int .i64 gn, .int .i64 gk, .int .i64 gs, .int .i64 ga, .int .i64 gc, .slice ab nb cb]] w fun e w' => e = .returned (.tuple #[.slice none 0 0, .slice none 0 0]) ∧ Mod (fun _ => False) w w' := by
  obtain ⟨F, h1, _⟩ := h
  exact co_no h1 now gn gk gs ga gc ab nb cb hno
theorem c1_pass (h : C1 w0 w p W B M R conn x) (ho : x.o = false) (hb : ChB x) (hids : ∀ e ∈ x.L, (x.F : Int) ≤ e.id ∧ e.id < ((x.F + x.bs.length : Nat) : Int)) (now : Int) (hnow : 0 ≤ now ∧ now ≤ 1048576) (hO : overE R (dueE x.L now) = []) :
    Calls Try.prog 18 #[.pointer (some ⟨p, 0, none⟩), .int .i64 now] w fun e w' => ∃ v, e = .returned (.tuple #[v, .int .i64 0]) ∧ OutG w.heap.size w' conn (againD x R now ++ payD W (agS x B M R now false)) v ∧ C1 w0 w' p W B M R conn (payC W B now (agS x B M R now false)) ∧ MC w0 w w' := by
  obtain ⟨F, h1, h2, h3⟩ := h
  refine (co_pass h1 ho hb hids now hnow hO).mono ?_
  rintro e w' ⟨v, he, hv, hq⟩
  exact ⟨v, he, hv, C1.turn h1 h2 h3 hq⟩
theorem c1_pass_gone (h : C1 w0 w p W B M R conn x) (ho : x.o = false) (hb : ChB x) (hids : ∀ e ∈ x.L, (x.F : Int) ≤ e.id ∧ e.id < ((x.F + x.bs.length : Nat) : Int)) (now : Int) (hnow : 0 ≤ now ∧ now ≤ 1048576) (hO : overE R (dueE x.L now) ≠ []) :
    Calls Try.prog 18 #[.pointer (some ⟨p, 0, none⟩), .int .i64 now] w fun e w' => e = .returned (.tuple #[.slice none 0 0, .int .i64 6]) ∧ C1 w0 w' p W B M R conn (agS x B M R now true) ∧ MC w0 w w' := by
  obtain ⟨F, h1, h2, h3⟩ := h
  refine (co_pass_gone h1 ho hb hids now hnow hO).mono ?_
  rintro e w' ⟨he, hq⟩
  exact ⟨he, C1.turn h1 h2 h3 hq⟩
end
end Go.Proofs.Ytdahoecejnnjkaa
