/- The sender: its memory; bodies under way. -/
import Derived.Test.YtdahoecejnnjkaaTm4
import Derived.Test.YtdahoecejnnjkaaClone
import Derived.Test.YtdahoecejnnjkaaShp
namespace Go.Proofs.Ytdahoecejnnjkaa
open Go.RowKit Mile Go.Maps
set_option maxRecDepth 100000
theorem Sd.infoB : (Try.prog.info? 38).map (fun i => (i.zero, i.size, i.bytes)) = some (some (.slice none 0 0), 1, 24) := by kernel_rfl
theorem Sd.info8 : (Try.prog.info? 5).map (fun i => (i.zero, i.size, i.bytes)) = some (some (.int .u8 0), 1, 1) := by kernel_rfl
/-- Bytes in memory of their own. -/
def BodyT (w : World) (b : List Int) (v : Value) : Prop := ∃ a n c, v = .slice a n c ∧ b.length = n ∧ World.ownsRow w 0 5 1 v n (b.map (Value.int .u8))
/-- Not a block of bytes. -/
def NoT (w : World) (k : Nat) : Prop := ∀ cur fz, w.heap[k]? ≠ some (.cells cur 5 fz)
theorem BodyT.keep {w w' : World} {b : List Int} {v : Value} {G : Nat → Prop} (h : BodyT w b v) (hm : Mod G w w') (hG : ∀ k, k < w.heap.size → G k → NoT w k) : BodyT w' b v := by
  obtain ⟨a, n, c, rfl, hn, ho⟩ := h
  refine ⟨a, n, c, rfl, hn, Own.keep ho hm (fun k hk hg => ?_)⟩
  rcases ho.2 with ⟨e, _⟩ | ⟨g, cap, cur, e, _, hb, _⟩
  · rw [e] at hk; cases hk
  · rw [e] at hk
    obtain rfl : g = k := Option.some.inj hk
    exact hG g (lt_of_block hb) hg _ _ hb
theorem NoT.blk {w : World} {k : Nat} {T : TypeId} {cs : List Value} (h : Blk w k T cs) (hT : T ≠ 5) : NoT w k := fun cur fz e => by
  unfold Blk at h
  rw [h] at e
  injection e with e
  injection e with _ e _
  exact hT e
theorem NoT.row {w : World} {B : Nat} {T : TypeId} {s n : Nat} {v : Value} {xs : List Value} {k : Nat} (h : w.ownsRow B T s v n xs) (hT : T ≠ 5) (hk : v.ownBlock = some k) : NoT w k := fun cur fz e => by
  rcases h.2 with ⟨e1, _⟩ | ⟨g, cap, u, e1, _, hb, _⟩
  · rw [e1] at hk; cases hk
  · rw [e1] at hk
    obtain rfl : g = k := Option.some.inj hk
    rw [hb] at e
    injection e with e
    injection e with _ e _
    exact hT e
theorem NoT.map {w : World} {k : Nat} {L : List Wt} (h : WM w k L) : NoT w k := fun cur fz e => by
  obtain ⟨es, clock, hb, _⟩ := h
  rw [hb] at e
  cases e
abbrev UdL := List (List Int × Value)
/-- A sender.Sender at block p, its timer at tp: us are under way, from number F on. -/
structure SD (w : World) (p tp : Nat) (tb : Option Nat) (W F : Nat) (a : Option Addr) (n c : Nat) (over : Bool) (B M R : Nat) (L : List Wt) (us : UdL) : Prop where
  w1 : 1 ≤ W
  w16 : W ≤ 16
  len : us.length = n
  nW : n ≤ W
  blk : Blk w p 104 [.pointer (some ⟨tp, 0, none⟩), .int .i64 (W : Int), .int .i64 (F : Int), .slice a n c, .bool over]
  tm : TM w tp tb B M R L
  own : World.ownsRow w 0 38 1 (.slice a n c) n (us.map (·.2))
  bodies : ∀ u ∈ us, BodyT w u.1 u.2
  ptp : ¬ tmF tp tb p
  row : ∀ k, (Value.slice a n c).ownBlock = some k → k ≠ p ∧ ¬ tmF tp tb k
/-- The sender's own blocks. -/
def sdF (p tp : Nat) (tb : Option Nat) (a : Option Addr) : Nat → Prop := fun k => k = p ∨ tmF tp tb k ∨ (Value.slice a 0 0).ownBlock = some k
theorem SD.noT {w : World} {p tp : Nat} {tb : Option Nat} {W F : Nat} {a : Option Addr} {n c : Nat} {over : Bool} {B M R : Nat} {L : List Wt} {us : UdL} (h : SD w p tp tb W F a n c over B M R L us) : ∀ k, sdF p tp tb a k → NoT w k := fun k hk => by
  rcases hk with rfl | hk | hk
  · exact NoT.blk h.blk (by decide)
  · rcases hk with rfl | hk
    · exact NoT.blk h.tm.blk (by decide)
    · exact NoT.map (h.tm.some_ k hk).2
  · exact NoT.row h.own (by decide) (by rw [← hk]; exact own_slice a n c 0 0)
theorem SD.lt {w : World} {p tp : Nat} {tb : Option Nat} {W F : Nat} {a : Option Addr} {n c : Nat} {over : Bool} {B M R : Nat} {L : List Wt} {us : UdL} (h : SD w p tp tb W F a n c over B M R L us) : ∀ k, sdF p tp tb a k → k < w.heap.size := fun k hk => by
  rcases hk with rfl | hk | hk
  · exact h.blk.lt
  · exact h.tm.lt k hk
  · exact Own.lt h.own (by rw [← hk]; exact own_slice a n c 0 0)
theorem SD.keep {w w' : World} {p tp : Nat} {tb : Option Nat} {W F : Nat} {a : Option Addr} {n c : Nat} {over : Bool} {B M R : Nat} {L : List Wt} {us : UdL} {G : Nat → Prop} (h : SD w p tp tb W F a n c over B M R L us) (hm : Mod G w w') (hG : ∀ k, sdF p tp tb a k → ¬ G k) (hT : ∀ k, k < w.heap.size → G k → NoT w k) : SD w' p tp tb W F a n c over B M R L us :=
  ⟨h.w1, h.w16, h.len, h.nW, h.blk.keep hm (hG p (.inl rfl)), h.tm.keep hm (fun k hk => hG k (.inr (.inl hk))), Own.keep h.own hm (fun k hk => hG k (.inr (.inr (by rw [← hk]; exact own_slice a 0 0 n c)))), fun u hu => (h.bodies u hu).keep hm hT, h.ptp, h.row⟩
theorem SD.later {w w' : World} {p tp : Nat} {tb : Option Nat} {W F : Nat} {a : Option Addr} {n c : Nat} {over : Bool} {B M R : Nat} {L : List Wt} {us : UdL} (h : SD w p tp tb W F a n c over B M R L us) (hm : Mod (fun _ => False) w w') : SD w' p tp tb W F a n c over B M R L us := h.keep hm (fun _ _ e => e) (fun _ _ e => e.elim)
end Go.Proofs.Ytdahoecejnnjkaa
