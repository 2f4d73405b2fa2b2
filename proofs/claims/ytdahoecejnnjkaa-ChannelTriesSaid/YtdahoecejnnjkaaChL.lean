/- A Channel and its blocks: its calls by contract, as the laws use them. -/
import Derived.Test.YtdahoecejnnjkaaCh10
namespace Go.Proofs.Ytdahoecejnnjkaa
open Go.RowKit Mile Go.Maps
set_option maxRecDepth 100000
/-- The Channel at block p stands for x; its blocks are F. -/
def CO (w : World) (p W B M R : Nat) (conn : Int) (x : ChS) (F : Nat → Prop) : Prop :=
  ∃ sp tp tb a c us kp kr ao co ou, CHm w p sp tp tb a c us kp kr ao co ou W B M R conn x ∧ F = chF p sp tp tb a kp kr ao
/-- A Channel behind a call: which of its blocks turned, which are new. -/
def CQ (p W B M R : Nat) (conn : Int) (x : ChS) (F : Nat → Prop) (w w' : World) : Prop :=
  ∃ F', CO w' p W B M R conn x F' ∧ (∀ k, F' k → F k ∨ w.heap.size ≤ k) ∧ Mod F w w'
/-- Its numbers are small. -/
structure ChB (x : ChS) : Prop where
  os : x.os.length ≤ 64
  F : x.F + x.bs.length ≤ 1000000
  N : x.N ≤ 1000000
  L : x.L.length ≤ 10000
  bo : ∀ b ∈ x.os, b.length ≤ 100000
  bb : ∀ b ∈ x.bs, b.length ≤ 100000
def payD (W : Nat) (x : ChS) : List Dg := dgD (x.N : Int) (x.F + x.bs.length) (x.os.take (payN W x))
def payC (W B : Nat) (now : Int) (x : ChS) : ChS := payS x B now (payN W x)
/-- A body that reads. -/
def BodyR (w : World) (b : List Int) (v : Value) : Prop := ∃ a n c, v = .slice a n c ∧ b.length = n ∧ Rd w 1 v n (b.map (Value.int .u8)) ∧ ∀ k, v.ownBlock = some k → IsT w k
theorem BodyR.keep {w w' : World} {b : List Int} {v : Value} {G : Nat → Prop} (h : BodyR w b v) (hm : Mod G w w') (hG : ∀ k, k < w.heap.size → G k → NoT w k) : BodyR w' b v := by
  obtain ⟨a, n, c, rfl, hn, hr, hk⟩ := h
  have hno : ∀ k, (Value.slice a n c).ownBlock = some k → ¬ G k := fun k h1 h2 => by
    obtain ⟨cur, fz, h3⟩ := hk k h1
    exact hG k (hk k h1).lt h2 _ _ h3
  exact ⟨a, n, c, rfl, hn, hr.keepA hm (fun k h1 h2 => absurd h2 (hno k h1)), fun k h1 => (hk k h1).keep hm (hno k h1)⟩
/-- Rows of bodies that are got. -/
def GotG (w : World) (gs : List (List Int)) (v : Value) : Prop := ∃ a n c vs, v = .slice a n c ∧ gs.length = n ∧ Rd w 1 v n vs ∧ vs.length = n ∧ ∀ i (h : i < gs.length), ∃ u, vs[i]? = some u ∧ BodyR w gs[i] u
section
variable {w w' : World} {p W B M R : Nat} {conn : Int} {x : ChS} {F : Nat → Prop}
theorem CO.lt (h : CO w p W B M R conn x F) : ∀ k, F k → k < w.heap.size := fun k hk => by obtain ⟨_, _, _, _, _, _, _, _, _, _, _, h, rfl⟩ := h; exact h.lt hk
theorem CO.noT (h : CO w p W B M R conn x F) : ∀ k, F k → NoT w k := fun k hk => by obtain ⟨_, _, _, _, _, _, _, _, _, _, _, h, rfl⟩ := h; exact h.noT hk
theorem CO.gram (h : CO w p W B M R conn x F) : ∀ k, TyB w k 40 → ¬ F k := fun k hk => by obtain ⟨_, _, _, _, _, _, _, _, _, _, _, h, rfl⟩ := h; exact h.gram hk
theorem CO.keep {G : Nat → Prop} (h : CO w p W B M R conn x F) (hm : Mod G w w') (hG : ∀ k, F k → ¬ G k) (hT : ∀ k, k < w.heap.size → G k → NoT w k) : CO w' p W B M R conn x F := by
  obtain ⟨sp, tp, tb, a, c, us, kp, kr, ao, co, ou, h, rfl⟩ := h
  exact ⟨sp, tp, tb, a, c, us, kp, kr, ao, co, ou, h.keep hm hG hT, rfl⟩
theorem CO.later (h : CO w p W B M R conn x F) (hm : Mod (fun _ => False) w w') : CO w' p W B M R conn x F := h.keep hm (fun _ _ e => e) (fun _ _ e => e.elim)
theorem CO.w16 (h : CO w p W B M R conn x F) : 1 ≤ W ∧ W ≤ 16 ∧ x.bs.length ≤ W := by obtain ⟨_, _, _, _, _, _, _, _, _, _, _, h, rfl⟩ := h; exact ⟨h.sd.w1, h.sd.w16, h.sd.nW⟩
theorem CO.own (h : CO w p W B M R conn x F) : F p := by obtain ⟨_, _, _, _, _, _, _, _, _, _, _, h, rfl⟩ := h; exact .inl rfl
theorem ChQ.cq {sp tp : Nat} {tb : Option Nat} {a : Option Addr} {kp kr : Nat} {ao : Option Addr} (h : ChQ p sp tp tb a kp kr ao W B M R conn x w w') : CQ p W B M R conn x (chF p sp tp tb a kp kr ao) w w' := by
  obtain ⟨tb', a', c', us', ao', co', ou', h1, h2, h3⟩ := h
  exact ⟨_, ⟨sp, tp, tb', a', c', us', kp, kr, ao', co', ou', h1, rfl⟩, h2, h3⟩
theorem co_push (h : CO w p W B M R conn x F) (ho : x.o = false) (hb : ChB x) (h64 : x.os.length < 64) (now : Int) (hnow : 0 ≤ now ∧ now ≤ 1048576) (b : List Int) (bv : Value) (nb : Nat) (hn : b.length = nb) (hrd : Rd w 1 bv nb (b.map (Value.int .u8))) (hbl : nb ≤ 100000) :
    Calls Try.prog 13 #[.pointer (some ⟨p, 0, none⟩), .int .i64 now, bv] w fun e w' => ∃ v, e = .returned (.tuple #[v, .int .i64 0]) ∧ OutG w.heap.size w' conn (payD W (oweS x b)) v ∧ CQ p W B M R conn (payC W B now (oweS x b)) F w w' := by
  subst hn
  obtain ⟨_, _, _, _, _, _, _, _, _, _, _, h, rfl⟩ := h
  refine (chpush_any h ho h64 (by have := hb.F; omega) (by have := hb.L; omega) (fun z hz => by have := hb.bo z hz; omega) now (by omega) b bv hrd (by omega)).mono ?_
  rintro e w' ⟨ag, cg, gl, he, hpo, hq⟩
  exact ⟨_, he, ⟨_, _, _, _, rfl, hpo.out⟩, hq.cq⟩
theorem co_full (h : CO w p W B M R conn x F) (ho : x.o = false) (h64 : 64 ≤ x.os.length) (now : Int) (v : Value) : Calls Try.prog 13 #[.pointer (some ⟨p, 0, none⟩), .int .i64 now, v] w fun e w' => e = .returned (.tuple #[.slice none 0 0, .int .i64 5]) ∧ w = w' := by
  obtain ⟨_, _, _, _, _, _, _, _, _, _, _, h, rfl⟩ := h
  exact chpush_full h ho h64 now v
theorem co_push_over (h : CO w p W B M R conn x F) (ho : x.o = true) (now : Int) (v : Value) : Calls Try.prog 13 #[.pointer (some ⟨p, 0, none⟩), .int .i64 now, v] w fun e w' => e = .returned (.tuple #[.slice none 0 0, .int .i64 6]) ∧ w = w' := by
  obtain ⟨_, _, _, _, _, _, _, _, _, _, _, h, rfl⟩ := h
  exact chpush_over h ho now v
theorem co_pass_over (h : CO w p W B M R conn x F) (ho : x.o = true) (now : Int) : Calls Try.prog 18 #[.pointer (some ⟨p, 0, none⟩), .int .i64 now] w fun e w' => e = .returned (.tuple #[.slice none 0 0, .int .i64 6]) ∧ w = w' := by
  obtain ⟨_, _, _, _, _, _, _, _, _, _, _, h, rfl⟩ := h
  exact chpass_over h ho now
theorem co_owed (h : CO w p W B M R conn x F) : Calls Try.prog 21 #[.pointer (some ⟨p, 0, none⟩)] w fun e w' => e = .returned (.int .i64 (x.os.length : Int)) ∧ w = w' := by
  obtain ⟨_, _, _, _, _, _, _, _, _, _, _, h, rfl⟩ := h
  exact chowed_any h
theorem co_conn (h : CO w p W B M R conn x F) : Calls Try.prog 22 #[.pointer (some ⟨p, 0, none⟩)] w fun e w' => e = .returned (.int .i64 conn) ∧ w = w' := by
  obtain ⟨_, _, _, _, _, _, _, _, _, _, _, h, rfl⟩ := h
  exact chconn_any h
/-- Recv of an Ack. -/
theorem co_ack (h : CO w p W B M R conn x F) (ho : x.o = false) (hb : ChB x) (now : Int) (hnow : 0 ≤ now ∧ now ≤ 1048576) (gs ga gc : Int) (ab : Option Addr) (nb cb : Nat) :
    Calls Try.prog 15 #[.pointer (some ⟨p, 0, none⟩), .int .i64 now, .agg #[.int .i64 conn, .int .i64 2, .int .i64 gs, .int .i64 ga, .int .i64 gc, .slice ab nb cb]] w fun e w' => ∃ v, e = .returned (.tuple #[.slice none 0 0, v]) ∧ OutG w.heap.size w' conn (payD W (ackC x (ackN x ga))) v ∧ CQ p W B M R conn (payC W B now (ackC x (ackN x ga))) F w w' := by
  obtain ⟨_, _, _, _, _, _, _, _, _, _, _, h, rfl⟩ := h
  refine (chrecv_ack h ho (by have := hb.os; omega) (by have := hb.F; omega) (by have := hb.L; omega) (fun z hz => by have := hb.bo z hz; omega) now (by omega) gs ga gc ab nb cb).mono ?_
  rintro e w' ⟨ag, cg, gl, he, hpo, hq⟩
  exact ⟨_, he, ⟨_, _, _, _, rfl, hpo.out⟩, hq.cq⟩
/-- Recv of Data. -/
theorem co_data (h : CO w p W B M R conn x F) (ho : x.o = false) (hb : ChB x) (now : Int) (hnow : 0 ≤ now ∧ now ≤ 1048576) (gs ga gc : Int) (ab : Option Addr) (nb cb : Nat) (bl : List Int) (hbl : bl.length = nb) (hrd : BodyT w bl (.slice ab nb cb)) (hnb : nb ≤ 100000) :
    Calls Try.prog 15 #[.pointer (some ⟨p, 0, none⟩), .int .i64 now, .agg #[.int .i64 conn, .int .i64 1, .int .i64 gs, .int .i64 ga, .int .i64 gc, .slice ab nb cb]] w fun e w' => ∃ u v, e = .returned (.tuple #[u, v]) ∧ GotG w' (takeL (ackC x (ackN x ga)) W gs bl) u ∧ OutG w.heap.size w' conn (⟨2, 0, ((takeC (ackC x (ackN x ga)) W gs bl).N : Int), []⟩ :: payD W (takeC (ackC x (ackN x ga)) W gs bl)) v ∧ CQ p W B M R conn (payC W B now (takeC (ackC x (ackN x ga)) W gs bl)) F w w' := by
  obtain ⟨_, _, _, _, _, _, _, _, _, _, _, h, rfl⟩ := h
  refine (chrecv_data h ho (by have := hb.os; omega) (by have := hb.F; omega) (by have := hb.L; omega) (fun z hz => by have := hb.bo z hz; omega) now (by omega) gs ga gc ab nb cb bl hbl hrd hnb (by have := hb.N; omega)).mono ?_
  rintro e w' ⟨ad, cd, vs, ag, cg, gl, he, hr, hbv, ho, hg, hbt, hq⟩
  obtain ⟨z, hz⟩ : ∃ z, takeC (ackC x (ackN x ga)) W gs bl = z := ⟨_, rfl⟩
  rw [hz] at he ho hg hq ⊢
  refine ⟨_, _, he, ⟨ad, _, cd, vs, rfl, rfl, hr, hbv.1, fun i hi => ?_⟩, ⟨ag, 1 + payN W z, cg, (⟨2, 0, (z.N : Int), []⟩, .slice none 0 0) :: dgZ (z.N : Int) (z.F + z.bs.length) gl, rfl, ?_, ?_, ?_, fun u hu => ?_⟩, hq.cq⟩
  · obtain ⟨u, h1, a, n, c, h2, h3, h4, h5⟩ := hbv.2 i hi
    exact ⟨u, h1, a, n, c, h2, h3, h4, fun k hk => (h5 k hk).2.2⟩
  · show _ :: (dgZ _ _ gl).map (·.1) = _
    rw [dgZ_fst, hg]; rfl
  · show (payD W _).length + 1 = _
    unfold payD
    rw [dgD_len]
    rw [List.length_take]
    have h2 : payN W z ≤ z.os.length := by
      unfold payN; split
      · exact Nat.zero_le _
      · exact Nat.min_le_right _ _
    rw [Nat.min_eq_left h2]
    omega
  · show World.ownsRow _ _ _ _ _ _ (dgC conn _ _ ++ dgR conn (dgZ _ _ gl))
    rw [dgZ_row]
    exact ho
  · rcases List.mem_cons.1 hu with rfl | hu
    · exact ⟨⟨none, 0, 0, rfl, rfl, World.ownsRow_nil _ _ _ _⟩, fun k hk => by cases hk⟩
    · obtain ⟨z, h1, h2, h3⟩ := dgZ_mem _ _ _ _ hu
      rw [h2, h3]
      exact hbt z h1
theorem co_no (h : CO w p W B M R conn x F) (now gn gk gs ga gc : Int) (ab : Option Addr) (nb cb : Nat) (hno : x.o = true ∨ gn ≠ conn ∨ (gk ≠ 1 ∧ gk ≠ 2)) :
    Calls Try.prog 15 #[.pointer (some ⟨p, 0, none⟩), .int .i64 now, .agg #[.int .i64 gn, .int .i64 gk, .int .i64 gs, .int .i64 ga, .int .i64 gc, .slice ab nb cb]] w fun e w' => e = .returned (.tuple #[.slice none 0 0, .slice none 0 0]) ∧ Mod (fun _ => False) w w' := by
  obtain ⟨_, _, _, _, _, _, _, _, _, _, _, h, rfl⟩ := h
  exact chrecv_no h now gn gk gs ga gc ab nb cb hno
/-- Pass. -/
theorem co_pass (h : CO w p W B M R conn x F) (ho : x.o = false) (hb : ChB x) (hids : ∀ e ∈ x.L, (x.F : Int) ≤ e.id ∧ e.id < ((x.F + x.bs.length : Nat) : Int)) (now : Int) (hnow : 0 ≤ now ∧ now ≤ 1048576) (hO : overE R (dueE x.L now) = []) :
    Calls Try.prog 18 #[.pointer (some ⟨p, 0, none⟩), .int .i64 now] w fun e w' => ∃ v, e = .returned (.tuple #[v, .int .i64 0]) ∧ OutG w.heap.size w' conn (againD x R now ++ payD W (agS x B M R now false)) v ∧ CQ p W B M R conn (payC W B now (agS x B M R now false)) F w w' := by
  obtain ⟨_, _, _, _, _, _, _, _, _, _, _, h, rfl⟩ := h
  refine (chpass_any h ho (by have := hb.os; omega) (by have := hb.F; omega) (by have := hb.L; omega) (fun z hz => by have := hb.bo z hz; omega) (fun z hz => by have := hb.bb z hz; omega) hids now (by omega)).mono ?_
  intro e w' hp
  unfold PassP at hp
  rw [if_pos hO] at hp
  obtain ⟨⟨v, he, hv⟩, hq⟩ := hp
  exact ⟨v, he, hv, hq.cq⟩
theorem co_pass_gone (h : CO w p W B M R conn x F) (ho : x.o = false) (hb : ChB x) (hids : ∀ e ∈ x.L, (x.F : Int) ≤ e.id ∧ e.id < ((x.F + x.bs.length : Nat) : Int)) (now : Int) (hnow : 0 ≤ now ∧ now ≤ 1048576) (hO : overE R (dueE x.L now) ≠ []) :
    Calls Try.prog 18 #[.pointer (some ⟨p, 0, none⟩), .int .i64 now] w fun e w' => e = .returned (.tuple #[.slice none 0 0, .int .i64 6]) ∧ CQ p W B M R conn (agS x B M R now true) F w w' := by
  obtain ⟨_, _, _, _, _, _, _, _, _, _, _, h, rfl⟩ := h
  refine (chpass_any h ho (by have := hb.os; omega) (by have := hb.F; omega) (by have := hb.L; omega) (fun z hz => by have := hb.bo z hz; omega) (fun z hz => by have := hb.bb z hz; omega) hids now (by omega)).mono ?_
  intro e w' hp
  unfold PassP at hp
  rw [if_neg hO] at hp
  exact ⟨hp.1, hp.2.cq⟩
end
end Go.Proofs.Ytdahoecejnnjkaa
