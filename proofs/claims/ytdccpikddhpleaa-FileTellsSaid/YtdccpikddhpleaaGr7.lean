/- A graph's object; contracts of what it tells. -/
import Derived.Test.YtdccpikddhpleaaGr6
namespace Mile
open Go Go.RowKit
/-- The numbers of those that are k, rising. -/
def idx (ks : List Int) (k : Int) : List Int := ((List.range ks.length).filter (fun i => ks.getD i (-1) == k)).map Int.ofNat
/-- A slice's block is one of those from B up to C. -/
def InB (B C : Nat) (v : Value) : Prop := ∀ k, v.ownBlock = some k → B ≤ k ∧ k < C
/-- The rows of the nodes, of edges that stand at the nodes ks. -/
structure RowD (w : World) (a : Option Addr) (n c : Nat) (b : Option Addr) (m d N : Nat) (ks : List Int) : Prop where
  rows : ∃ es fs : List Int, ∃ (_ : es.length = n) (hf : fs.length = m) (hm : m = N + 1), n = ks.length ∧ Rd w 1 (.slice a n c) n (es.map (Value.int .i64)) ∧ Rd w 1 (.slice b m d) m (fs.map (Value.int .i64)) ∧
    ∀ k (hk : k < N), ∃ lo hi : Nat, fs[k]'(by omega) = lo ∧ fs[k + 1]'(by omega) = hi ∧ lo ≤ hi ∧ hi ≤ n ∧ (es.take hi).drop lo = idx ks k
theorem RowD.keep {H : Nat → Prop} {w w' : World} {a : Option Addr} {n c : Nat} {b : Option Addr} {m d N : Nat} {ks : List Int} (h : RowD w a n c b m d N ks) (hm : Mod H w w') (h1 : ∀ k, (Value.slice a n c).ownBlock = some k → ¬ H k) (h2 : ∀ k, (Value.slice b m d).ownBlock = some k → ¬ H k) : RowD w' a n c b m d N ks := by
  obtain ⟨es, fs, he, hf, hmN, hn, hre, hrf, hall⟩ := h
  exact ⟨es, fs, he, hf, hmN, hn, hre.keep hm h1, hrf.keep hm h2, hall⟩
end Mile
namespace Go.Proofs.Ytdccpikddhpleaa
open Go.RowKit Mile
set_option maxRecDepth 100000

/-- A graph that stands for G, at block p, in blocks from B up to C. -/
structure GO (w : World) (p B C : Nat) (G : GD) : Prop where
  obj : ∃ (a1 : Option Addr) (n1 d1 : Nat) (a2 : Option Addr) (n2 d2 : Nat) (a3 : Option Addr) (n3 d3 : Nat) (a4 : Option Addr) (n4 d4 : Nat) (a5 : Option Addr) (n5 d5 : Nat) (a6 : Option Addr) (n6 d6 : Nat) (a7 : Option Addr) (n7 d7 : Nat),
    Blk w p 85 [.slice a1 n1 d1, .slice a2 n2 d2, .slice a3 n3 d3, .slice a4 n4 d4, .slice a5 n5 d5, .slice a6 n6 d6, .slice a7 n7 d7] ∧ GV w a1 n1 d1 a2 n2 d2 a3 n3 d3 G ∧
    RowD w a4 n4 d4 a5 n5 d5 G.N.length (G.E.map (·.1)) ∧ RowD w a6 n6 d6 a7 n7 d7 G.N.length (G.E.map (·.2.1)) ∧
    InB B C (.slice a1 n1 d1) ∧ InB B C (.slice a2 n2 d2) ∧ InB B C (.slice a3 n3 d3) ∧ InB B C (.slice a4 n4 d4) ∧ InB B C (.slice a5 n5 d5) ∧ InB B C (.slice a6 n6 d6) ∧ InB B C (.slice a7 n7 d7)
  at_ : B ≤ p ∧ p < C
  may : May G
  lt : C ≤ w.heap.size

theorem GO.keep {H : Nat → Prop} {w w' : World} {p B C : Nat} {G : GD} (h : GO w p B C G) (hm : Mod H w w') (hd : ∀ k, B ≤ k → k < C → ¬ H k) : GO w' p B C G := by
  obtain ⟨⟨a1, n1, d1, a2, n2, d2, a3, n3, d3, a4, n4, d4, a5, n5, d5, a6, n6, d6, a7, n7, d7, hb, hv, ho, hi, b1, b2, b3, b4, b5, b6, b7⟩, hat, hmay, hlt⟩ := h
  have k {v : Value} (hb : InB B C v) : ∀ k, v.ownBlock = some k → ¬ H k := fun k hk => hd k (hb k hk).1 (hb k hk).2
  exact ⟨⟨a1, n1, d1, a2, n2, d2, a3, n3, d3, a4, n4, d4, a5, n5, d5, a6, n6, d6, a7, n7, d7, hb.keep hm (hd p hat.1 hat.2), ⟨hv.n, hv.e, hv.b, hv.rn.keep hm (k b1), hv.re.keep hm (k b2), hv.rb.keep hm (k b3)⟩,
    ho.keep hm (k b4) (k b5), hi.keep hm (k b6) (k b7), b1, b2, b3, b4, b5, b6, b7⟩, hat, hmay, Nat.le_trans hlt hm.size⟩

end Go.Proofs.Ytdccpikddhpleaa
