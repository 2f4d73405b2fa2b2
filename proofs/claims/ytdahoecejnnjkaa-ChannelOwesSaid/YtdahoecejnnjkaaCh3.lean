/- channel's pay, by contract. -/
import Derived.Test.YtdahoecejnnjkaaCh2
import Derived.Test.YtdahoecejnnjkaaSdL
namespace Go.Proofs.Ytdahoecejnnjkaa
open Go.RowKit Mile Go.Maps
set_option maxRecDepth 100000
theorem Ch.infoG : (Try.prog.info? 40).map (fun i => (i.zero, i.size, i.bytes)) = some (some (.agg #[.int .i64 0, .int .i64 0, .int .i64 0, .int .i64 0, .int .i64 0, .slice none 0 0]), 6, 64) := by kernel_rfl
/-- Datagrams with bodies, from number q on, one behind the other. -/
def dgs (conn ack : Int) : Nat → List Value → List Value
  | _, [] => []
  | q, v :: l => [.int .i64 conn, .int .i64 1, .int .i64 (q : Int), .int .i64 ack, .int .i64 0, v] ++ dgs conn ack (q + 1) l
theorem dgs_snoc (conn ack : Int) (v : Value) : ∀ (l : List Value) (q : Nat), dgs conn ack q (l ++ [v]) = dgs conn ack q l ++ [.int .i64 conn, .int .i64 1, .int .i64 ((q + l.length : Nat) : Int), .int .i64 ack, .int .i64 0, v]
  | [], q => by simp [dgs]
  | u :: l, q => by
    show [_, _, _, _, _, _] ++ dgs conn ack (q + 1) (l ++ [v]) = ([_, _, _, _, _, _] ++ dgs conn ack (q + 1) l) ++ _
    rw [dgs_snoc conn ack v l (q + 1), List.append_assoc, show q + 1 + l.length = q + (u :: l).length by simp; omega]
theorem dgs_len (conn ack : Int) : ∀ (l : List Value) (q : Nat), (dgs conn ack q l).length = l.length * 6
  | [], _ => rfl
  | _ :: l, q => by show ([_, _, _, _, _, _] ++ dgs conn ack (q + 1) l).length = _; rw [List.length_append, dgs_len conn ack l (q + 1), List.length_cons]; simp; omega
/-- The waits behind j sends, from number q on. -/
def putsW (L : List Wt) (q : Nat) (d : Int) : Nat → List Wt
  | 0 => L
  | j + 1 => putW (putsW L q d j) ⟨((q + j : Nat) : Int), d, 0⟩
theorem putsW_len (L : List Wt) (q : Nat) (d : Int) : ∀ j, (putsW L q d j).length ≤ L.length + j
  | 0 => Nat.le_refl _
  | j + 1 => Nat.le_trans (putW_len _ _) (by have := putsW_len L q d j; omega)
/-- A Channel behind j of those that it owed were sent. -/
def payS (x : ChS) (B : Nat) (now : Int) (j : Nat) : ChS := ⟨x.F, x.o, putsW x.L (x.F + x.bs.length) (now + (B : Int)) j, x.bs ++ x.os.take j, x.N, x.f, x.os.drop j⟩
theorem payS_zero (x : ChS) (B : Nat) (now : Int) : payS x B now 0 = x := by unfold payS putsW; simp
/-- How many are sent. -/
def payN (W : Nat) (x : ChS) : Nat := if x.o then 0 else min (W - x.bs.length) x.os.length
/-- What is told: datagrams in new memory, their bodies too. -/
structure PayO (w0 w : World) (conn ack : Int) (q : Nat) (gs : List (List Int)) (a : Option Addr) (m c : Nat) (gl : UdL) : Prop where
  eq : gl.map (·.1) = gs
  len : gs.length = m
  own : w.ownsRow w0.heap.size 40 6 (.slice a m c) m (dgs conn ack q (gl.map (·.2)))
  bodies : ∀ u ∈ gl, BodyT w u.1 u.2 ∧ ∀ k, u.2.ownBlock = some k → w0.heap.size ≤ k
theorem PayO.keep {w0 w w' : World} {conn ack : Int} {q : Nat} {gs : List (List Int)} {a : Option Addr} {m c : Nat} {gl : UdL} {G : Nat → Prop} (h : PayO w0 w conn ack q gs a m c gl) (hm : Mod G w w') (hG : ∀ k, (Value.slice a m c).ownBlock = some k → ¬ G k) (hT : ∀ k, k < w.heap.size → G k → NoT w k) : PayO w0 w' conn ack q gs a m c gl :=
  ⟨h.eq, h.len, Own.keep h.own hm hG, fun u hu => ⟨(h.bodies u hu).1.keep hm hT, (h.bodies u hu).2⟩⟩
theorem PayO.ty {w0 w : World} {conn ack : Int} {q : Nat} {gs : List (List Int)} {a : Option Addr} {m c : Nat} {gl : UdL} (h : PayO w0 w conn ack q gs a m c gl) {k : Nat} (hk : (Value.slice a m c).ownBlock = some k) : TyB w k 40 := TyB.own h.own hk
section
variable {w w' : World} {p sp tp : Nat} {tb : Option Nat} {a : Option Addr} {c : Nat} {us : UdL} {kp kr : Nat} {ao : Option Addr} {co : Nat} {ou : UdL} {W B M R : Nat} {conn : Int} {x : ChS}
/-- A row of datagrams is none of the Channel's blocks. -/
theorem CHm.gram (h : CHm w p sp tp tb a c us kp kr ao co ou W B M R conn x) {k : Nat} (hk : TyB w k 40) : ¬ chF p sp tp tb a kp kr ao k := fun e => by
  rcases e with rfl | e | rfl | rfl | e
  · exact hk.ne (TyB.blk h.blk) (by decide) rfl
  · rcases e with rfl | e | e
    · exact hk.ne (TyB.blk h.sd.blk) (by decide) rfl
    · rcases e with rfl | e
      · exact hk.ne (TyB.blk h.sd.tm.blk) (by decide) rfl
      · exact hk.map (h.sd.tm.some_ k e).2 rfl
    · exact hk.ne (TyB.own h.sd.own (by rw [← e]; exact own_slice a _ c 0 0)) (by decide) rfl
  · exact hk.ne (TyB.blk h.tk.blk) (by decide) rfl
  · exact hk.ne h.tyk (by decide) rfl
  · exact hk.ne (h.tyo e) (by decide) rfl
end
/-- A Channel behind a call that told datagrams: which of its blocks turned, which are new. -/
def ChQ (p sp tp : Nat) (tb : Option Nat) (a : Option Addr) (kp kr : Nat) (ao : Option Addr) (W B M R : Nat) (conn : Int) (x : ChS) (w w' : World) : Prop :=
  ∃ tb' a' c' us' ao' co' ou', CHm w' p sp tp tb' a' c' us' kp kr ao' co' ou' W B M R conn x ∧ (∀ k, chF p sp tp tb' a' kp kr ao' k → chF p sp tp tb a kp kr ao k ∨ w.heap.size ≤ k) ∧ Mod (chF p sp tp tb a kp kr ao) w w'
/-- What pay leaves and tells. -/
def PayP (p sp tp : Nat) (tb : Option Nat) (a : Option Addr) (kp kr : Nat) (ao : Option Addr) (W B M R : Nat) (conn : Int) (x : ChS) (now : Int) (w : World) (e : Ending) (w' : World) : Prop :=
  ∃ ag cg gl, e = .returned (.slice ag (payN W x) cg) ∧ PayO w w' conn (x.N : Int) (x.F + x.bs.length) (x.os.take (payN W x)) ag (payN W x) cg gl ∧ ChQ p sp tp tb a kp kr ao W B M R conn (payS x B now (payN W x)) w w'
end Go.Proofs.Ytdahoecejnnjkaa
