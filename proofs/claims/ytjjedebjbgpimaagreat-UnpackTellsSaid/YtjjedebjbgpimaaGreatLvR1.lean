/- The reference's Levels: Build, by contract. -/
import Derived.Test.YtjjedebjbgpimaaGreatLvP2
import Derived.Test.YtjjedebjbgpimaaGreatRRk
import Derived.Test.YtjjedebjbgpimaaGreatRCopy
import Derived.Deep.DeepCutAuto
import Derived.Deep.CutBlock
namespace Go.Proofs.YtjjedebjbgpimaaGreat
open Go.RowKit Mile
set_option maxRecDepth 100000
attribute [local go_sem] Oper.semAt_some
structure RL (w : World) (p tq rd n : Nat) (T : List Ar) (V : List Nat) : Prop where
  blk : Blk w p 45 [.pointer (some ⟨tq, 0, none⟩), .slice (some ⟨rd, 0, none⟩) n n]
  net : RN w tq n T
  row : Rd w 1 (.slice (some ⟨rd, 0, none⟩) n n) n ((rkL n V).map (Value.int .i64))
theorem RL.later {w w' : World} {p tq rd n : Nat} {T : List Ar} {V : List Nat} (h : RL w p tq rd n T V) (hm : Mod (fun _ => False) w w') : RL w' p tq rd n T V :=
  ⟨h.blk.keep hm (fun e => e), h.net.later hm, h.row.keep hm (fun _ _ e => e)⟩
theorem own_blkR {w : World} {b rd c : Nat} {T : TypeId} {xs : List Value} {m k : Nat} (_ : w.ownsRow b T 1 (.slice (some ⟨rd, 0, none⟩) m c) m xs) (hk : (Value.slice (some ⟨rd, 0, none⟩) m c).ownBlock = some k) : k = rd := by
  cases hk' : decide (c = 0) with
  | true =>
    have : c = 0 := of_decide_eq_true hk'
    subst this
    simp [Value.ownBlock] at hk
    try omega
  | false =>
    simp [Value.ownBlock] at hk
    omega
structure RB (w0 : World) (n p tq tc rd gd : Nat) (C T : List Ar) (V : List Nat) (W : World) : Prop where
  blk : Blk W p 45 [.pointer (some ⟨tq, 0, none⟩), .slice (some ⟨rd, 0, none⟩) n n]
  nt : RNG W tq n T (fun k => w0.heap.size ≤ k ∧ k ≠ tc ∧ k ≠ rd ∧ k ≠ gd)
  nc : RNG W tc n C (fun k => w0.heap.size ≤ k ∧ k ≠ tq ∧ k ≠ rd ∧ k ≠ gd)
  row : W.ownsRow 0 3 1 (.slice (some ⟨rd, 0, none⟩) n n) n ((rkL n V).map (Value.int .i64))
  gr : W.ownsRow 0 4 1 (.slice (some ⟨gd, 0, none⟩) n n) n ((dnL n V).map Value.bool)
  ne : p ≠ tq ∧ p ≠ tc ∧ p ≠ rd ∧ p ≠ gd ∧ tq ≠ tc ∧ tq ≠ rd ∧ tq ≠ gd ∧ tc ≠ rd ∧ tc ≠ gd ∧ rd ≠ gd
  lt : tq < W.heap.size ∧ tc < W.heap.size ∧ rd < W.heap.size ∧ gd < W.heap.size
  low : w0.heap.size ≤ p ∧ w0.heap.size ≤ tq ∧ w0.heap.size ≤ tc ∧ w0.heap.size ≤ rd ∧ w0.heap.size ≤ gd
  md : Mod (fun _ => False) w0 W
section
variable {w0 W W' : World} {n p tq tc rd gd : Nat} {C C' T T' : List Ar} {V : List Nat}
theorem RB.later (h : RB w0 n p tq tc rd gd C T V W) (hm : Mod (fun _ => False) W W') : RB w0 n p tq tc rd gd C T V W' :=
  ⟨h.blk.keep hm (fun e => e), h.nt.later hm, h.nc.later hm, Own.keep h.row hm (fun _ _ e => e), Own.keep h.gr hm (fun _ _ e => e), h.ne, by have := hm.size; have := h.lt; omega, h.low, h.md.of2 hm⟩
theorem RB.turnC (h : RB w0 n p tq tc rd gd C T V W) (hq : RNG W' tc n C' (fun k => (w0.heap.size ≤ k ∧ k ≠ tq ∧ k ≠ rd ∧ k ≠ gd) ∨ (W.heap.size ≤ k ∧ k < W'.heap.size))) (hm : Mod (fun k => k = tc) W W') : RB w0 n p tq tc rd gd C' T V W' := by
  have hne := h.ne
  have hlt := h.lt
  have hz := h.md.size
  refine ⟨h.blk.keep hm (by omega), h.nt.keep hm (by omega) (fun k hk e => by have e2 : k = tc := e; omega), hq.mono (fun k hk => by omega), Own.keep h.row hm (fun k hk e => by have := own_blkR h.row hk; have e2 : k = tc := e; omega), Own.keep h.gr hm (fun k hk e => by have := own_blkR h.gr hk; have e2 : k = tc := e; omega), hne, by have := hm.size; omega, h.low, h.md.trans hm (fun _ _ e => e) (fun k hk e => by have e2 : k = tc := e; have := h.low; omega)⟩
theorem RB.turnT (h : RB w0 n p tq tc rd gd C T V W) (hq : RNG W' tq n T' (fun k => (w0.heap.size ≤ k ∧ k ≠ tc ∧ k ≠ rd ∧ k ≠ gd) ∨ (W.heap.size ≤ k ∧ k < W'.heap.size))) (hm : Mod (fun k => k = tq) W W') : RB w0 n p tq tc rd gd C T' V W' := by
  have hne := h.ne
  have hlt := h.lt
  have hz := h.md.size
  refine ⟨h.blk.keep hm (by omega), hq.mono (fun k hk => by omega), h.nc.keep hm (by omega) (fun k hk e => by have e2 : k = tq := e; omega), Own.keep h.row hm (fun k hk e => by have := own_blkR h.row hk; have e2 : k = tq := e; omega), Own.keep h.gr hm (fun k hk e => by have := own_blkR h.gr hk; have e2 : k = tq := e; omega), hne, by have := hm.size; omega, h.low, h.md.trans hm (fun _ _ e => e) (fun k hk e => by have e2 : k = tq := e; have := h.low; omega)⟩
theorem RB.mark (h : RB w0 n p tq tc rd gd C T V W) {v : Nat} (hvV : v ∉ V) : RB w0 n p tq tc rd gd C T (V ++ [v]) ((W.setCell ⟨gd, v, none⟩ (.bool true)).setCell ⟨rd, v, none⟩ (.int .i64 ((V.length : Nat) : Int))) := by
  have hm1 : Mod (fun k => k = gd) W (W.setCell ⟨gd, v, none⟩ (.bool true)) := Mod.setCell _ _ _ rfl
  have hm2 : Mod (fun k => k = rd) (W.setCell ⟨gd, v, none⟩ (.bool true)) ((W.setCell ⟨gd, v, none⟩ (.bool true)).setCell ⟨rd, v, none⟩ (.int .i64 ((V.length : Nat) : Int))) := Mod.setCell _ _ _ rfl
  have hm : Mod (fun k => k = gd ∨ k = rd) W ((W.setCell ⟨gd, v, none⟩ (.bool true)).setCell ⟨rd, v, none⟩ (.int .i64 ((V.length : Nat) : Int))) := hm1.trans hm2 (fun _ _ e => .inl e) (fun _ _ e => .inr e)
  have hne := h.ne
  have hlt := h.lt
  have hz := h.md.size
  have hlow := h.low
  have hg1 := (h.gr.stored v (.bool true)).1
  rw [← List.map_set, dnL_set] at hg1
  have hr1 := Own.keep h.row hm1 (fun k hk e => by have := own_blkR h.row hk; have e2 : k = gd := e; omega)
  have hr2 := (hr1.stored v (.int .i64 ((V.length : Nat) : Int))).1
  rw [← List.map_set, rkL_set hvV] at hr2
  refine ⟨h.blk.keep hm (by omega), h.nt.keep hm (by omega) (fun k hk e => by have e2 : k = gd ∨ k = rd := e; omega), h.nc.keep hm (by omega) (fun k hk e => by have e2 : k = gd ∨ k = rd := e; omega), hr2, Own.keep hg1 hm2 (fun k hk e => by have := own_blkR hg1 hk; have e2 : k = rd := e; omega), hne, by have := hm.size; omega, h.low, h.md.trans hm (fun _ _ e => e) (fun k hk e => by have e2 : k = gd ∨ k = rd := e; omega)⟩
end
end Go.Proofs.YtjjedebjbgpimaaGreat
