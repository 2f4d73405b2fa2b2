/- The channel: its memory; what it stands for. -/
import Derived.Test.YtdahoecejnnjkaaSd5
import Derived.Test.YtdahoecejnnjkaaTk2
import Derived.Test.YtdahoecejnnjkaaCh1
namespace Go.Proofs.Ytdahoecejnnjkaa
open Go.RowKit Mile Go.Maps
set_option maxRecDepth 100000
/-- A block of cells of this type. -/
def TyB (w : World) (k : Nat) (T : TypeId) : Prop := ∃ cur fz, w.heap[k]? = some (.cells cur T fz)
theorem TyB.blk {w : World} {k : Nat} {T : TypeId} {cs : List Value} (h : Blk w k T cs) : TyB w k T := ⟨_, _, h⟩
theorem TyB.own {w : World} {B s n k : Nat} {T : TypeId} {v : Value} {xs : List Value} (h : w.ownsRow B T s v n xs) (hk : v.ownBlock = some k) : TyB w k T := by
  rcases h.2 with ⟨e1, _⟩ | ⟨g, cap, u, e1, _, hb, _⟩
  · rw [e1] at hk; cases hk
  · rw [e1] at hk
    obtain rfl : g = k := Option.some.inj hk
    exact ⟨_, _, hb⟩
theorem TyB.ne {w : World} {j k : Nat} {T U : TypeId} (h1 : TyB w j T) (h2 : TyB w k U) (hT : T ≠ U) : j ≠ k := fun e => by
  subst e
  obtain ⟨c1, z1, h1⟩ := h1
  obtain ⟨c2, z2, h2⟩ := h2
  rw [h1] at h2
  injection h2 with h2
  injection h2 with _ e _
  exact hT e
theorem TyB.map {w : World} {j k : Nat} {T : TypeId} {L : List Wt} (h1 : TyB w j T) (h2 : WM w k L) : j ≠ k := fun e => by
  subst e
  obtain ⟨c1, z1, h1⟩ := h1
  obtain ⟨es, clock, hb, _⟩ := h2
  rw [h1] at hb
  cases hb
theorem TyB.noT {w : World} {k : Nat} {T : TypeId} (h : TyB w k T) (hT : T ≠ 5) : NoT w k := fun cur fz e => (TyB.ne h ⟨cur, fz, e⟩ hT) rfl
theorem BodyV.turn {w w' : World} {p r : Nat} {o : Option (List Int)} {v : Value} {G : Nat → Prop} (h : BodyV w p r o v) (hm : Mod G w w') (hT : ∀ k, k < w.heap.size → G k → NoT w k) : BodyV w' p r o v := by
  obtain ⟨a, n, c, rfl, hn, hr, hk⟩ := h
  have hno : ∀ k, (Value.slice a n c).ownBlock = some k → ¬ G k := fun k hk1 hk2 => by
    obtain ⟨cur, fz, h⟩ := (hk k hk1).2.2
    exact hT k (hk k hk1).2.2.lt hk2 cur fz h
  exact ⟨a, n, c, rfl, hn, hr.keepA hm (fun k hk1 hk2 => absurd hk2 (hno k hk1)), fun k hk1 => ⟨(hk k hk1).1, (hk k hk1).2.1, (hk k hk1).2.2.keep hm (hno k hk1)⟩⟩
/-- A Taker beside what turns. -/
theorem TK.turn {w w' : World} {p r W N : Nat} {f : Hld} {G : Nat → Prop} (h : TK w p r W N f) (hm : Mod G w w') (hp : ¬ G p) (hr : ¬ G r) (hT : ∀ k, k < w.heap.size → G k → NoT w k) : TK w' p r W N f := by
  obtain ⟨cs, h1, h2, h3⟩ := h.row
  exact ⟨h.W0, h.W16, h.ne, h.blk.keep hm hp, ⟨cs, h1.keep hm hr, h2, fun s a b => by obtain ⟨g1, v, g2, g3⟩ := h3 s a b; exact ⟨g1, v, g2, g3.turn hm hT⟩⟩, h.sup⟩
/-- What a Channel stands for: its sender, its taker, what it owes. -/
structure ChS where
  F : Nat
  o : Bool
  L : List Wt
  bs : List (List Int)
  N : Nat
  f : Hld
  os : List (List Int)
/-- Its memory. -/
structure CHm (w : World) (p sp tp : Nat) (tb : Option Nat) (a : Option Addr) (c : Nat) (us : UdL) (kp kr : Nat) (ao : Option Addr) (co : Nat) (ou : UdL) (W B M R : Nat) (conn : Int) (x : ChS) : Prop where
  hb : us.map (·.1) = x.bs
  ho : ou.map (·.1) = x.os
  sd : SD w sp tp tb W x.F a x.bs.length c x.o B M R x.L us
  tk : TK w kp kr W x.N x.f
  blk : Blk w p 63 [.pointer (some ⟨sp, 0, none⟩), .pointer (some ⟨kp, 0, none⟩), .int .i64 conn, .slice ao x.os.length co]
  own : w.ownsRow 0 38 1 (.slice ao x.os.length co) x.os.length (ou.map (·.2))
  bodies : ∀ u ∈ ou, BodyT w u.1 u.2
  ap : ∀ k, (Value.slice a 0 0).ownBlock = some k → (Value.slice ao 0 0).ownBlock ≠ some k
/-- All its blocks. -/
def chF (p sp tp : Nat) (tb : Option Nat) (a : Option Addr) (kp kr : Nat) (ao : Option Addr) : Nat → Prop := fun k => k = p ∨ sdF sp tp tb a k ∨ k = kp ∨ k = kr ∨ (Value.slice ao 0 0).ownBlock = some k
section
variable {w w' : World} {p sp tp : Nat} {tb : Option Nat} {a : Option Addr} {c : Nat} {us : UdL} {kp kr : Nat} {ao : Option Addr} {co : Nat} {ou : UdL} {W B M R : Nat} {conn : Int} {x : ChS}
theorem CHm.tyo (h : CHm w p sp tp tb a c us kp kr ao co ou W B M R conn x) {k : Nat} (hk : (Value.slice ao 0 0).ownBlock = some k) : TyB w k 38 := TyB.own h.own (by rw [← hk]; exact own_slice ao _ co 0 0)
theorem CHm.tyk (h : CHm w p sp tp tb a c us kp kr ao co ou W B M R conn x) : TyB w kr 121 := by obtain ⟨cs, h1, _⟩ := h.tk.row; exact TyB.blk h1
/-- The sender's blocks are none of the others. -/
theorem CHm.sdne (h : CHm w p sp tp tb a c us kp kr ao co ou W B M R conn x) {k : Nat} (hk : sdF sp tp tb a k) : k ≠ p ∧ k ≠ kp ∧ k ≠ kr ∧ (Value.slice ao 0 0).ownBlock ≠ some k := by
  have hp := TyB.blk h.blk
  have hkp := TyB.blk h.tk.blk
  have hkr := h.tyk
  rcases hk with rfl | hk | hk
  · have hs := TyB.blk h.sd.blk
    exact ⟨hs.ne hp (by decide), hs.ne hkp (by decide), hs.ne hkr (by decide), fun e => hs.ne (h.tyo e) (by decide) rfl⟩
  · rcases hk with rfl | hk
    · have hs := TyB.blk h.sd.tm.blk
      exact ⟨hs.ne hp (by decide), hs.ne hkp (by decide), hs.ne hkr (by decide), fun e => hs.ne (h.tyo e) (by decide) rfl⟩
    · have hs := (h.sd.tm.some_ k hk).2
      exact ⟨fun e => hp.map hs e.symm, fun e => hkp.map hs e.symm, fun e => hkr.map hs e.symm, fun e => (h.tyo e).map hs rfl⟩
  · have hs : TyB w k 38 := TyB.own h.sd.own (by rw [← hk]; exact own_slice a _ c 0 0)
    exact ⟨hs.ne hp (by decide), hs.ne hkp (by decide), hs.ne hkr (by decide), h.ap k hk⟩
theorem CHm.noT (h : CHm w p sp tp tb a c us kp kr ao co ou W B M R conn x) {k : Nat} (hk : chF p sp tp tb a kp kr ao k) : NoT w k := by
  rcases hk with rfl | hk | rfl | rfl | hk
  · exact NoT.blk h.blk (by decide)
  · exact h.sd.noT k hk
  · exact NoT.blk h.tk.blk (by decide)
  · exact h.tyk.noT (by decide)
  · exact (h.tyo hk).noT (by decide)
theorem CHm.lt (h : CHm w p sp tp tb a c us kp kr ao co ou W B M R conn x) {k : Nat} (hk : chF p sp tp tb a kp kr ao k) : k < w.heap.size := by
  rcases hk with rfl | hk | rfl | rfl | hk
  · exact h.blk.lt
  · exact h.sd.lt k hk
  · exact h.tk.blk.lt
  · obtain ⟨cs, h1, _⟩ := h.tk.row; exact h1.lt
  · obtain ⟨cur, fz, hb⟩ := h.tyo hk; exact lt_of_block hb
/-- Other blocks turn. -/
theorem CHm.keep {G : Nat → Prop} (h : CHm w p sp tp tb a c us kp kr ao co ou W B M R conn x) (hm : Mod G w w') (hG : ∀ k, chF p sp tp tb a kp kr ao k → ¬ G k) (hT : ∀ k, k < w.heap.size → G k → NoT w k) : CHm w' p sp tp tb a c us kp kr ao co ou W B M R conn x :=
  ⟨h.hb, h.ho, h.sd.keep hm (fun k hk => hG k (.inr (.inl hk))) hT, h.tk.turn hm (hG kp (.inr (.inr (.inl rfl)))) (hG kr (.inr (.inr (.inr (.inl rfl))))) hT, h.blk.keep hm (hG p (.inl rfl)), Own.keep h.own hm (fun k hk => hG k (.inr (.inr (.inr (.inr (by rw [← hk]; exact own_slice ao 0 0 _ co)))))), fun u hu => (h.bodies u hu).keep hm hT, h.ap⟩
theorem CHm.later (h : CHm w p sp tp tb a c us kp kr ao co ou W B M R conn x) (hm : Mod (fun _ => False) w w') : CHm w' p sp tp tb a c us kp kr ao co ou W B M R conn x := h.keep hm (fun _ _ e => e) (fun _ _ e => e.elim)
/-- The sender turned. -/
theorem CHm.sent {F' n' : Nat} {o' : Bool} {L' : List Wt} {us' : UdL} (h : CHm w p sp tp tb a c us kp kr ao co ou W B M R conn x) (hq : SdQ sp tp tb a W F' n' o' B M R L' us' w w') : ∃ tb' a' c', CHm w' p sp tp tb' a' c' us' kp kr ao co ou W B M R conn ⟨F', o', L', us'.map (·.1), x.N, x.f, x.os⟩ ∧ (∀ k, sdF sp tp tb' a' k → sdF sp tp tb a k ∨ w.heap.size ≤ k) ∧ Mod (sdF sp tp tb a) w w' := by
  obtain ⟨tb', a', c', h1, h2, h3⟩ := hq
  have hn : n' = (us'.map (·.1)).length := by rw [List.length_map]; exact h1.len.symm
  subst hn
  refine ⟨tb', a', c', ⟨rfl, h.ho, h1, h.tk.turn h3 (fun e => (h.sdne e).2.1 rfl) (fun e => (h.sdne e).2.2.1 rfl) (fun k _ e => h.sd.noT k e), h.blk.keep h3 (fun e => (h.sdne e).1 rfl), Own.keep h.own h3 (fun k hk e => (h.sdne e).2.2.2 (by rw [← hk]; exact own_slice ao 0 0 _ co)), fun u hu => (h.bodies u hu).keep h3 (fun k _ e => h.sd.noT k e), fun k hk e => ?_⟩, h2, h3⟩
  rcases h2 k (.inr (.inr hk)) with g | g
  · exact (h.sdne g).2.2.2 e
  · have := h.lt (k := k) (.inr (.inr (.inr (.inr e)))); omega
/-- The taker turned. -/
theorem CHm.took {N' : Nat} {f' : Hld} (h : CHm w p sp tp tb a c us kp kr ao co ou W B M R conn x) (ht : TK w' kp kr W N' f') (hm : Mod (fun k => k = kp ∨ k = kr) w w') : CHm w' p sp tp tb a c us kp kr ao co ou W B M R conn ⟨x.F, x.o, x.L, x.bs, N', f', x.os⟩ := by
  have hT : ∀ k, k = kp ∨ k = kr → NoT w k := fun k hk => h.noT (hk.elim (fun e => .inr (.inr (.inl e))) (fun e => .inr (.inr (.inr (.inl e)))))
  have hkp := TyB.blk h.tk.blk
  refine ⟨h.hb, h.ho, h.sd.keep hm (fun k hk e => e.elim (h.sdne hk).2.1 (h.sdne hk).2.2.1) (fun k _ e => hT k e), ht, h.blk.keep hm (fun e => e.elim (fun e => (TyB.blk h.blk).ne hkp (by decide) e) (fun e => (TyB.blk h.blk).ne h.tyk (by decide) e)), Own.keep h.own hm (fun k hk e => ?_), fun u hu => (h.bodies u hu).keep hm (fun k _ e => hT k e), h.ap⟩
  have hty := h.tyo (k := k) (by rw [← hk]; exact own_slice ao 0 0 _ co)
  exact e.elim (fun e => hty.ne hkp (by decide) e) (fun e => hty.ne h.tyk (by decide) e)
/-- What is owed turned: another row stands in its place. -/
theorem CHm.owes {w5 : World} {ao' : Option Addr} {co' : Nat} {ou' : UdL} {G : Nat → Prop} (h : CHm w p sp tp tb a c us kp kr ao co ou W B M R conn x) (ho : w5.ownsRow 0 38 1 (.slice ao' ou'.length co') ou'.length (ou'.map (·.2))) (hb : ∀ u ∈ ou', BodyT w5 u.1 u.2) (hm : Mod G w w5) (hG : ∀ k, G k → (Value.slice ao 0 0).ownBlock = some k) (hnew : ∀ k, (Value.slice ao' 0 0).ownBlock = some k → (Value.slice ao 0 0).ownBlock = some k ∨ w.heap.size ≤ k) :
    CHm (w5.setCell ⟨p, 3, none⟩ (.slice ao' ou'.length co')) p sp tp tb a c us kp kr ao' co' ou' W B M R conn ⟨x.F, x.o, x.L, x.bs, x.N, x.f, ou'.map (·.1)⟩ ∧ Mod (fun k => k = p ∨ (Value.slice ao 0 0).ownBlock = some k) w (w5.setCell ⟨p, 3, none⟩ (.slice ao' ou'.length co')) := by
  have hset : Mod (fun k => k = p) w5 (w5.setCell ⟨p, 3, none⟩ (.slice ao' ou'.length co')) := Mod.setCell _ _ _ rfl
  have hT : ∀ k, k < w.heap.size → G k → NoT w k := fun k _ hk => (h.tyo (hG k hk)).noT (by decide)
  have hb5 : Blk w5 p 63 [.pointer (some ⟨sp, 0, none⟩), .pointer (some ⟨kp, 0, none⟩), .int .i64 conn, .slice ao x.os.length co] := h.blk.keep hm (fun e => (TyB.blk h.blk).ne (h.tyo (hG p e)) (by decide) rfl)
  have hsd : SD w5 sp tp tb W x.F a x.bs.length c x.o B M R x.L us := h.sd.keep hm (fun k hk e => (h.sdne hk).2.2.2 (hG k e)) hT
  have htk : TK w5 kp kr W x.N x.f := h.tk.turn hm (fun e => (TyB.blk h.tk.blk).ne (h.tyo (hG kp e)) (by decide) rfl) (fun e => h.tyk.ne (h.tyo (hG kr e)) (by decide) rfl) hT
  have hT2 : ∀ k, k < w5.heap.size → k = p → NoT w5 k := fun k _ hk => by rw [hk]; exact NoT.blk hb5 (by decide)
  have hn : (ou'.map (·.1)).length = ou'.length := List.length_map _
  have hkpp : kp ≠ p := (TyB.blk h.tk.blk).ne (TyB.blk h.blk) (by decide)
  have hkrp : kr ≠ p := h.tyk.ne (TyB.blk h.blk) (by decide)
  refine ⟨⟨h.hb, rfl, hsd.keep hset (fun k hk e => (h.sdne hk).1 e) hT2, htk.turn hset hkpp hkrp hT2, ?_, ?_, fun u hu => (hb u hu).keep hset hT2, fun k hk e => ?_⟩, hm.trans hset (fun k _ e => .inr (hG k e)) (fun k _ e => .inl e)⟩
  · have hs := hb5.set 3 (.slice ao' ou'.length co')
    show Blk _ p _ [_, _, _, .slice ao' (ou'.map (·.1)).length co']
    rw [hn]
    exact hs
  · show World.ownsRow _ 0 _ 1 (.slice ao' (ou'.map (·.1)).length co') (ou'.map (·.1)).length _
    rw [hn]
    refine Own.keep ho hset (fun k hk e => ?_)
    exact (TyB.own ho hk).ne (TyB.blk hb5) (by decide) e
  · rcases hnew k e with g | g
    · exact h.ap k hk g
    · have := h.lt (k := k) (.inr (.inl (.inr (.inr hk)))); omega
/-- Made by New. -/
theorem CNew.chm (h : CNew w w' p sp tp kp kr W B M R conn) : CHm w' p sp tp none none 0 [] kp kr none 0 [] W B M R conn ⟨0, false, [], [], 0, fun _ => none, []⟩ :=
  ⟨rfl, rfl, h.sd, h.tk, h.blk, World.ownsRow_nil _ _ _ _, fun u hu => by simp at hu, fun k hk => by cases hk⟩
end
end Go.Proofs.Ytdahoecejnnjkaa
