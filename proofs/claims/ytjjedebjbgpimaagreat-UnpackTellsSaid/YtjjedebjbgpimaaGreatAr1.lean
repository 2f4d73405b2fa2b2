/- witness.settled's closure, by contract, for a round that keeps what came. -/
import Derived.Test.YtjjedebjbgpimaaGreatWit2
import Derived.Test.YtjjedebjbgpimaaGreatKVia
import Derived.Deep.DeepCutAuto
import Derived.Deep.CutBlock
namespace Go.Proofs.YtjjedebjbgpimaaGreat
open Go.RowKit Mile
set_option maxRecDepth 100000
attribute [local go_sem] Oper.semAt_some
theorem nt_len_qA {w : World} {p n : Nat} {L : List Ar} {F : Nat → Prop} (h : NT w p n L F) (k : Nat) : Calls Tryz.prog 27 #[.pointer (some ⟨p, 0, none⟩)] (w.drewN k) fun e w' => e = .returned (.int .i64 (n : Int)) ∧ w' = w.drewN k :=
  (nt_len (h.later (Mod.drewN _ _ _))).mono fun _ _ hh => ⟨hh.1, hh.2.symm⟩
theorem ord_tlenA {X : Web} {d : List Int} {mo : Int} {T : List Nat} {S : List It} {pend : Nat → Nat → Prop} (h : Ord X d mo T S pend) (hf : Fix X d) : T.length ≤ X.m := by
  have := nodupN_le T (List.range X.m) h.nod (fun t ht => List.mem_range.2 (by have := dAt_in (h.t t ht).1; rw [hf.len] at this; exact this))
  simpa using this
theorem start_okA {n : Nat} {L : List Ar} {fn : Nat} {wo mo : Int} {d : List Int} (hf : Fix (netW n L (fn : Int) wo) d) (hfn : fn < n) :
    ∃ S ps us, S = (if lessB (List.replicate n 0) wo mo fn 0 then (pushS [] (fn : Int) 0).2 else []) ∧ ps = (if lessB (List.replicate n 0) wo mo fn 0 then (List.replicate n (0 : Int)).set fn (0 + 1) else List.replicate n 0) ∧ us = (if lessB (List.replicate n 0) wo mo fn 0 then (List.replicate n (0 : Int)).set fn (-1) else List.replicate n 0) ∧ Ord (netW n L (fn : Int) wo) d mo [] S (fun _ _ => False) ∧ PIn d [] S ps n := by
  have hdz : dP (List.replicate n (0 : Int)) fn = 0 := by rw [dP_eq _ _ (by simpa using hfn), List.getElem_replicate]
  have hless : lessB (List.replicate n 0) wo mo fn 0 = (decide (0 ≤ mo) && decide ((fn : Int) ≠ wo)) := by unfold lessB; rw [hdz]; rfl
  refine ⟨_, _, _, rfl, rfl, rfl, ?_⟩
  rw [hless]
  by_cases hg : 0 ≤ mo ∧ (fn : Int) ≠ wo
  · rw [decide_eq_true hg.1, decide_eq_true hg.2]
    simp only [Bool.and_true, if_true]
    have hpush : (pushS [] (fn : Int) 0).2 = [((fn : Int), 0)] := rfl
    rw [hpush]
    have hst : (netW n L (fn : Int) wo).st fn := ⟨rfl, hg.2⟩
    have h0 := hf.st fn hst hfn
    refine ⟨⟨List.nodup_nil, by simp, by simp, fun x hx => ?_, fun e h1 h2 h3 => ?_, by simp⟩, ⟨by simp, by simp, fun e k _ hk => ?_, fun e _ hno => ?_⟩⟩
    · rw [List.mem_singleton] at hx; subst hx
      exact ⟨fn, rfl, hfn, by simp, hg.1, by omega, by show dAt d fn ≤ 0; omega, by show (0 : Int) ≤ _; omega⟩
    · right
      have : e = fn := by have := h1.1; omega
      subst this
      exact ⟨0, by simp, Int.le_refl _⟩
    · rw [List.mem_singleton] at hk
      obtain ⟨h1, rfl⟩ := Prod.mk.inj hk
      have : e = fn := by omega
      subst this
      rw [dP_set _ _ _ _ (by simpa using hfn), if_pos rfl]
    · rw [dP_set _ _ _ _ (by simpa using hfn)]
      by_cases hef : e = fn
      · subst hef; exact absurd (List.mem_singleton.2 rfl) (hno 0)
      · rw [if_neg hef]
        unfold dP
        rw [List.getD, List.getElem?_replicate]; split <;> rfl
  · have hb : (decide (0 ≤ mo) && decide ((fn : Int) ≠ wo)) = false := by
      rcases Classical.not_and_iff_not_or_not.1 hg with h | h
      · rw [decide_eq_false h]; rfl
      · rw [decide_eq_false h, Bool.and_false]
    rw [hb]
    refine ⟨⟨List.nodup_nil, by simp, by simp, by simp, fun e h1 h2 h3 => ?_, by simp⟩, PIn.begin d n⟩
    have h4 := h1.1
    exact absurd ⟨h3, h1.2⟩ hg
theorem start_vA {n : Nat} {L : List Ar} {fn : Nat} {wo mo : Int} {d : List Int} (hfn : fn < n) :
    VIn (netW n L (fn : Int) wo) d [] (if lessB (List.replicate n 0) wo mo fn 0 then (pushS [] (fn : Int) 0).2 else []) (if lessB (List.replicate n 0) wo mo fn 0 then (List.replicate n (0 : Int)).set fn (-1) else List.replicate n 0) n := by
  cases hl : lessB (List.replicate n 0) wo mo fn 0 with
  | false =>
    have := VIn.none (netW n L (fn : Int) wo) d (List.replicate n (0 : Int))
    rw [List.length_replicate] at this
    simpa using this
  | true =>
    have hw : (fn : Int) ≠ wo := by
      unfold lessB at hl
      simp only [Bool.and_eq_true, decide_eq_true_eq] at hl
      exact hl.2.2
    have := VIn.begin (X := netW n L (fn : Int) wo) (d := d) (n := n) (f := fn) ⟨rfl, hw⟩ hfn
    rw [if_pos rfl, if_pos rfl]
    exact this
theorem stps_reachA {X : Web} {d : List Int} {mo wo : Int} {T : List Nat} {S : List It} {ps us : List Int} {n : Nat} {pend : Nat → Nat → Prop} (hp : PIn d T S ps n) (ho : Ord X d mo T S pend) (hf : Fix X d) (hx : X.m = n) (hul : us.length = n) {e b : Nat} (hr : X.rl e b) (hb : b ∈ T) (k : Int) (hk : k = dAt d b + X.wt e b) :
    stpsOf d us T = stpsOf d (if lessB ps wo mo e k then us.set e (b : Int) else us) T := by
  cases hl : lessB ps wo mo e k with
  | false => rfl
  | true =>
    have hm := X.one e b hr
    have hel : e < us.length := by rw [hul, ← hx]; exact hm.2.2.1
    have hb0 := (ho.t b hb).1
    have hsh := hf.shut e b hr hb0
    have hless : dP ps e = 0 ∨ k < dP ps e - 1 := by
      unfold lessB at hl
      simp only [Bool.and_eq_true, Bool.or_eq_true, decide_eq_true_eq] at hl
      omega
    have heT : e ∉ T := fun x => by
      have h1 := hp.set e x
      have h2 := (ho.t e x).1
      omega
    rw [if_pos rfl]
    unfold stpsOf
    refine List.map_congr_left fun t ht => ?_
    have hne : t ≠ e := fun x => heT (x ▸ ht)
    rw [dP_set _ _ _ _ hel, if_neg hne]
abbrev HistP := List Stp → (Nat → Prop) → World → Prop
structure HJ (J : HistP) : Prop where
  keep : ∀ h B W W' (H : Nat → Prop), J h B W → Mod H W W' → (∀ k, H k → ¬ B k) → J h B W'
  lt : ∀ h B W, J h B W → ∀ k, B k → k < W.heap.size
abbrev RndA := World × List Stp × (Nat → Prop) × Stp
def rndA (x : RndA) : Array Value := #[.agg #[.int .i64 x.2.2.2.1, .int .i64 x.2.2.2.2.1, .int .i64 x.2.2.2.2.2]]
def AJb (J : HistP) (w : World) (l D : Nat) (x : RndA) (W : World) : Prop := Mod (fun _ => False) w x.1 ∧ Mod (fun k => k = l) x.1 W ∧ J x.2.1 x.2.2.1 W ∧ (∀ k, x.2.2.1 k → w.heap.size ≤ k ∧ k ≠ l ∧ k ≠ D ∧ k < x.1.heap.size) ∧ (l < x.1.heap.size ∧ D < x.1.heap.size) ∧ x.2.1.length ≤ 512
def AJa (J : HistP) (l D : Nat) (x : RndA) (W' : World) : Prop := ∃ B', J (x.2.1 ++ [x.2.2.2]) B' W' ∧ Mod (fun k => k = l ∨ x.2.2.1 k) x.1 W' ∧ ∀ k, B' k → (x.2.2.1 k ∨ x.1.heap.size ≤ k) ∧ k ≠ l ∧ k ≠ D
def AQ (J : HistP) (w : World) (n : Nat) (L : List Ar) (fn : Nat) (wo : Int) (sn : Nat) (d : List Int) (l D : Nat) (R O : Obj) (e : Ending) (W' : World) : Prop :=
  (∃ v, e = .returned v) ∧ (∃ h B, J h B W' ∧ StopsOf n L fn wo d sn h ∧ (∀ k, B k → w.heap.size ≤ k ∧ k ≠ l ∧ k ≠ D) ∧ Mod (fun _ => False) w W') ∧ W'.heap[l]? = some R ∧ W'.heap[D]? = some O
section
variable {J : HistP} {w W : World} {B1 n p b7 l D bt tp sn : Nat} {L : List Ar} {fr wo mo : Int} {d : List Int} {T : List Nat} {S : List It} {ps us : List Int} {G B : Nat → Prop} {pend : Nat → Nat → Prop} {Ds : List Nat} {R O : Obj} {h : List Stp}
def SNA (J : HistP) (w7 : World) (h : List Stp) (x : Stp) (B : Nat → Prop) (l D : Nat) (R O : Obj) (W' : World) : Prop := ∃ B', J (h ++ [x]) B' W' ∧ Mod (fun k => k = l ∨ B k) w7 W' ∧ (∀ k, B' k → (B k ∨ w7.heap.size ≤ k) ∧ k ≠ l ∧ k ≠ D) ∧ W'.heap[l]? = some R ∧ W'.heap[D]? = some O
structure BsA (J : HistP) (w W : World) (B1 : Nat) (Ds : List Nat) (l D : Nat) (R O : Obj) (bt tp b7 : Nat) (h : List Stp) (B : Nat → Prop) : Prop where
  md : Mod (fun _ => False) w W
  hl : W.heap[l]? = some R
  hD : W.heap[D]? = some O
  mks : MarksOk Ds W
  lt : l < B1 ∧ D < B1 ∧ w.heap.size ≤ B1
  ds : ∀ E ∈ Ds, B1 ≤ E
  bx : Blk W bt 29 [.pointer (some ⟨tp, 0, none⟩)]
  bl : bt < B1 ∧ bt ≠ l ∧ ¬ B bt
  j : J h B W
  b : ∀ k, B k → w.heap.size ≤ k ∧ k ∉ Ds ∧ k ≠ b7 ∧ k ≠ l ∧ k ≠ D
theorem BsA.keep {W' : World} {H : Nat → Prop} (hJ : HJ J) (h1 : BsA J w W B1 Ds l D R O bt tp b7 h B) (hm : Mod H W W') (hH : ∀ k, H k → B1 ≤ k ∧ k ∉ Ds ∧ ¬ B k) : BsA J w W' B1 Ds l D R O bt tp b7 h B :=
  ⟨h1.md.trans hm (fun _ _ e => e) (fun k hk e => by have := (hH k e).1; have := h1.lt.2.2; omega), hm.obj h1.hl (fun e => by have := (hH l e).1; have := h1.lt.1; omega), hm.obj h1.hD (fun e => by have := (hH D e).1; have := h1.lt.2.1; omega), h1.mks.keep hm (fun E hE e => (hH E e).2.1 hE), h1.lt, h1.ds, h1.bx.keep hm (fun e => by have := (hH bt e).1; have := h1.bl.1; omega), h1.bl, hJ.keep _ _ _ _ _ h1.j hm (fun k e => (hH k e).2.2), h1.b⟩
structure SStA (J : HistP) (w W : World) (B1 : Nat) (Ds : List Nat) (n : Nat) (L : List Ar) (fr wo mo : Int) (d : List Int) (sn p b7 bt tp : Nat) (T : List Nat) (S : List It) (ps us : List Int) (G B : Nat → Prop) (h : List Stp) (pend : Nat → Nat → Prop) (l D : Nat) (R O : Obj) : Prop where
  s : Sst w W B1 (fun k => (k ∈ Ds ∨ B k) ∨ k = b7) p n ps us wo mo S G
  b : Blk W b7 190 [.pointer (some ⟨p, 0, none⟩)]
  o : Ord (netW n L fr wo) d mo T S pend
  i : PIn d T S ps n
  v : VIn (netW n L fr wo) d T S us n
  pw : T.Pairwise (ahead d)
  le : T.length ≤ sn
  hh : h = stpsOf d us T
  bs : BsA J w W B1 Ds l D R O bt tp b7 h B
  b7 : B1 ≤ b7
def QIA (J : HistP) (w W : World) (B1 : Nat) (Z : Nat → Prop) (n : Nat) (L : List Ar) (fr wo mo : Int) (d : List Int) (p b7 b8 b9 v : Nat) (x2 : Int) (T : List Nat) (Ds : List Nat) (bt tp : Nat) (h : List Stp) (B : Nat → Prop) (l D : Nat) (R O : Obj) (pend : Nat → Nat → Prop) : Prop :=
  ∃ S ps us G, Sst w W B1 Z p n ps us wo mo S G ∧ (Ord (netW n L fr wo) d mo T S pend ∧ VIn (netW n L fr wo) d T S us n ∧ h = stpsOf d us T) ∧ PIn d T S ps n ∧ Blk W b7 190 [.pointer (some ⟨p, 0, none⟩)] ∧ Blk W b8 3 [.int .i64 (v : Int)] ∧ Blk W b9 3 [.int .i64 x2] ∧ BsA J w W B1 Ds l D R O bt tp b7 h B
section
variable {W' : World} {H Z : Nat → Prop} {b8 b9 v : Nat} {x2 : Int}
theorem QIA.keep (hJ : HJ J) (h0 : QIA J w W B1 Z n L fr wo mo d p b7 b8 b9 v x2 T Ds bt tp h B l D R O pend) (hm : Mod H W W') (hH : ∀ k, H k → B1 ≤ k ∧ Z k ∧ k ≠ b7 ∧ k ≠ b8 ∧ k ≠ b9 ∧ k ∉ Ds ∧ ¬ B k) : QIA J w W' B1 Z n L fr wo mo d p b7 b8 b9 v x2 T Ds bt tp h B l D R O pend := by
  obtain ⟨S, ps, us, G, h1, h2, h3, h4, h5, h6, h7⟩ := h0
  exact ⟨S, ps, us, G, h1.keep hm (fun k hk => ⟨Nat.le_trans h1.b.1 (hH k hk).1, fun e => (h1.g k e).2 (hH k hk).2.1⟩), h2, h3, h4.keep hm (fun e => (hH _ e).2.2.1 rfl), h5.keep hm (fun e => (hH _ e).2.2.2.1 rfl), h6.keep hm (fun e => (hH _ e).2.2.2.2.1 rfl), h7.keep hJ hm (fun k hk => ⟨(hH k hk).1, (hH k hk).2.2.2.2.2⟩)⟩
theorem QIA.later (hJ : HJ J) (h0 : QIA J w W B1 Z n L fr wo mo d p b7 b8 b9 v x2 T Ds bt tp h B l D R O pend) (hm : Mod (fun _ => False) W W') : QIA J w W' B1 Z n L fr wo mo d p b7 b8 b9 v x2 T Ds bt tp h B l D R O pend := h0.keep hJ hm (fun _ e => e.elim)
theorem QIA.md (h0 : QIA J w W B1 Z n L fr wo mo d p b7 b8 b9 v x2 T Ds bt tp h B l D R O pend) : Mod (fun _ => False) w W := by obtain ⟨S, ps, us, G, h1, _⟩ := h0; exact h1.md
theorem QIA.guest (hJ : HJ J) (h0 : QIA J w W B1 Z n L fr wo mo d p b7 b8 b9 v x2 T Ds bt tp h B l D R O pend) (hm : Mod (fun _ => False) W W') {g : Nat} (hg : W.heap.size ≤ g) (hl : g < W'.heap.size) : QIA J w W' B1 (fun k => Z k ∨ k = g) n L fr wo mo d p b7 b8 b9 v x2 T Ds bt tp h B l D R O pend := by
  obtain ⟨S, ps, us, G, h1, h2, h3, h4, h5, h6, h7⟩ := h0
  exact ⟨S, ps, us, G, h1.guest hm hg hl, h2, h3, h4.keep hm (fun e => e), h5.keep hm (fun e => e), h6.keep hm (fun e => e), h7.keep hJ hm (fun _ e => e.elim)⟩
theorem QIA.said (h0 : QIA J w W B1 Z n L fr wo mo d p b7 b8 b9 v x2 T Ds bt tp h B l D R O pend) {pend' : Nat → Nat → Prop} (hp : ∀ e b, (netW n L fr wo).rl e b → pend e b → pend' e b) : QIA J w W B1 Z n L fr wo mo d p b7 b8 b9 v x2 T Ds bt tp h B l D R O pend' := by
  obtain ⟨S, ps, us, G, h1, h2, h3, h4⟩ := h0
  exact ⟨S, ps, us, G, h1, ⟨h2.1.said hp, h2.2⟩, h3, h4⟩
theorem qi_reachA (hJ : HJ J) (h0 : QIA J w W B1 Z n L fr wo mo d p b7 b8 b9 v x2 T Ds bt tp h B l D R O pend) (hz : ∀ k, (k = b7 ∨ k = b8 ∨ k = b9 ∨ k ∈ Ds ∨ B k) → Z k) (hok : NetOk n L) (h512 : n ≤ 512) (hw : ∀ a ∈ L, a.w ≤ 1099511627776) (hf : Fix (netW n L fr wo) d) (hv : v ∈ T) (hx : x2 = dAt d v) {a : Ar} (ha : a ∈ L) (haf : a.f = v)
    {pend' : Nat → Nat → Prop} (hp : ∀ e b, (netW n L fr wo).rl e b → pend e b → pend' e b ∨ ((e : Int) = a.t ∧ b = v)) :
    Calls Tryz.prog 158 #[.pointer (some ⟨p, 0, none⟩), .int .i64 a.t, .int .i64 (x2 + a.w), .int .i64 (v : Int)] W fun x W' => x = .returned (.tuple #[]) ∧ QIA J w W' B1 Z n L fr wo mo d p b7 b8 b9 v x2 T Ds bt tp h B l D R O pend' ∧ Mod (fun k => ¬ Z k) W W' := by
  obtain ⟨S, ps, us, G, h1, ⟨h2, h2v, h2h⟩, h3, h4, h5, h6, h7⟩ := h0
  have hmay := hok.may a ha
  unfold mayA at hmay
  obtain ⟨e, he⟩ := Int.eq_ofNat_of_zero_le hmay.2.2.1
  have htop := netW_top h512 hf
  have hv0 := (h2.t v hv).1
  have hvt := htop v
  have haw := hw a ha
  have hfew := h2.few h1.o.ids.2
  have hfew2 : S.length ≤ n := hfew
  rw [he]
  refine (frreach_any h1.o h512 (by omega) e (by omega) (x2 + a.w) (by omega) (v : Int) (h3.bound h2 htop e)).mono ?_
  rintro x W' ⟨rfl, G', ho, hA⟩
  have hs := h1.aft ho hA
  have hng : ∀ k, Z k → ¬ G k := fun k hz e => (h1.g k e).2 hz
  have hkeep : ∀ {pend2 : Nat → Nat → Prop} {S2 ps2 us2}, Ord (netW n L fr wo) d mo T S2 pend2 → PIn d T S2 ps2 n → VIn (netW n L fr wo) d T S2 us2 n → stpsOf d us T = stpsOf d us2 T → Sst w W' B1 Z p n ps2 us2 wo mo S2 G' → QIA J w W' B1 Z n L fr wo mo d p b7 b8 b9 v x2 T Ds bt tp h B l D R O pend2 := fun g1 g2 gv gs g3 =>
    ⟨_, _, _, G', g3, ⟨g1, gv, h2h.trans gs⟩, g2, h4.keep hA.1 (hng b7 (hz b7 (.inl rfl))), h5.keep hA.1 (hng b8 (hz b8 (.inr (.inl rfl)))), h6.keep hA.1 (hng b9 (hz b9 (.inr (.inr (.inl rfl))))), h7.keep hJ hA.1 (fun k hk => ⟨(h1.g k hk).1, fun e => hng k (hz k (.inr (.inr (.inr (.inl e))))) hk, fun e => hng k (hz k (.inr (.inr (.inr (.inr e))))) hk⟩)⟩
  refine ⟨rfl, ?_, hA.1.mono (fun k _ e hz => hng k hz e)⟩
  by_cases hwo : a.t = wo
  · have hl : lessB ps wo mo e (x2 + a.w) = false := by unfold lessB; rw [decide_eq_false (fun x => x (by omega) : ¬ (e : Int) ≠ wo), Bool.and_false, Bool.and_false]
    rw [hl] at hs
    refine hkeep (h2.said fun e' b hr hpe => ?_) h3 h2v rfl hs
    rcases hp e' b hr hpe with h8 | ⟨h8, _⟩
    · exact h8
    · obtain ⟨_, _, h9, _⟩ := hr
      exact absurd (h8.trans hwo) h9
  · have hrl := netW_rl (fr := fr) (wo := wo) hok hw ha (e := e) (b := v) he haf hwo
    have hwt := netW_wt (n := n) (fr := fr) (wo := wo) hok.sort ha (e := e) (b := v) he haf
    obtain ⟨g1, g2⟩ := reach_step (X := netW n L fr wo) (n := n) rfl h3 (h2.said (pend' := fun e' b' => pend' e' b' ∨ (e' = e ∧ b' = v)) fun e' b hr hpe => (hp e' b hr hpe).imp id (fun h => ⟨by omega, h.2⟩)) hf htop h1.o.ids.2 hrl (wo := wo) (by rw [← he]; exact hwo) hv (fun _ _ h => h) (x2 + a.w) (by rw [hwt, hx])
    have hk2 : x2 + a.w = dAt d v + (netW n L fr wo).wt e v := by rw [hwt, hx]
    exact hkeep g1 g2 (h2v.reach h3 h2 hf rfl h1.o.ids.2 hrl hv (x2 + a.w) hk2) (stps_reachA h3 h2 hf rfl h2v.len hrl hv (x2 + a.w) hk2) hs
end
theorem set_noA {tmps : Array Value} {fn : Nat} (hJ : HJ J) (h1 : BsA J w W B1 Ds l D R O bt tp b7 h B) (hs : StopsOf n L fn wo d sn h) {fu : Func} (hfu : Tryz.prog.funcs[156]? = some fu) {ex : Exit} (hex : ex = .normal ∨ ex = .ret) : rfPostN Tryz.prog fu (AQ J w n L fn wo sn d l D R O) ex { tmps := tmps, defers := marks Ds } W := by
  have hmd := putDs_mod Ds W
  have hr : (results fu tmps).run Tryz.prog (putDs W Ds) = .ok (.tuple #[]) (putDs W Ds) := by
    rw [Tryz.func156] at hfu
    obtain rfl := Option.some.inj hfu
    exact results_none rfl _ _ _
  have hq : AQ J w n L fn wo sn d l D R O (.returned (.tuple #[])) (putDs W Ds) :=
    ⟨⟨_, rfl⟩, ⟨h, B, hJ.keep _ _ _ _ _ h1.j hmd (fun k e e2 => (h1.b k e2).2.1 e), hs, fun k hk => ⟨(h1.b k hk).1, (h1.b k hk).2.2.2⟩, h1.md.trans hmd (fun _ _ e => e) (fun k hk e => by have := h1.ds k e; have := h1.lt; omega)⟩, hmd.obj h1.hl (fun e => by have := h1.ds l e; have := h1.lt; omega), hmd.obj h1.hD (fun e => by have := h1.ds D e; have := h1.lt; omega)⟩
  rcases hex with rfl | rfl
  · exact ⟨Ds, rfl, h1.mks, _, hr, hq⟩
  · exact ⟨Ds, rfl, h1.mks, _, hr, hq⟩
end
set_option maxHeartbeats 16000000 in
theorem settled_hist {J : HistP} (hJ : HJ J) {w : World} {tp n : Nat} {L : List Ar} {F : Nat → Prop} (h : NT w tp n L F) (hw : ∀ a ∈ L, a.w ≤ 1099511627776) (fn : Nat) (hfn : fn < n) (wo mo : Int) (hmo : mo = moX) (sn : Nat) (d : List Int) (hf : Fix (netW n L (fn : Int) wo) d) (l D : Nat) (hlD : w.heap.size ≤ l ∧ w.heap.size ≤ D) (hne : l ≠ D) (R O : Obj) (W1 : World) (hW1 : Mod (fun _ => False) w W1)
    (bf bt bw bm bs : Nat) (hbf : Blk W1 bf 3 [.int .i64 (fn : Int)]) (hbt : Blk W1 bt 29 [.pointer (some ⟨tp, 0, none⟩)]) (hbw : Blk W1 bw 3 [.int .i64 wo]) (hbm : Blk W1 bm 3 [.int .i64 mo]) (hbs : Blk W1 bs 3 [.int .i64 (sn : Int)]) (hbl : bt ≠ l)
    (B0 : Nat → Prop) (hJ0 : J [] B0 W1) (hB0 : ∀ k, B0 k → w.heap.size ≤ k ∧ k ≠ l ∧ k ≠ D ∧ k ≠ bt)
    (hl : W1.heap[l]? = some R) (hD : W1.heap[D]? = some O) (hY : YieldsTo Tryz.prog rndA l D R O (AJb J w l D) (AJa J l D)) :
    CallsIn Fence.wide 0 Tryz.prog 156 #[.func (.yield l) #[] #[], .pointer (some ⟨bf, 0, none⟩), .pointer (some ⟨bt, 0, none⟩), .pointer (some ⟨bw, 0, none⟩), .pointer (some ⟨bm, 0, none⟩), .pointer (some ⟨bs, 0, none⟩)] W1 (AQ J w n L fn wo sn d l D R O) := by
  refine callsIn_wide.2 ?_
  have h512 := h.n512
  have HNT := Lib.hid h
  have HF := Lib.hid hf
  have HWT := Lib.hid hw
  have HY := Lib.hid hY
  have HL := Lib.hid hl
  have HD := Lib.hid hD
  have HLD := Lib.hid (And.intro hlD hne)
  have HMO := Lib.hid hmo
  have HJ := hJ
  have HJ0 := Lib.hid (And.intro hJ0 (And.intro hB0 hbl))
  have HBX := Lib.hid (And.intro hbf (And.intro hbt (And.intro hbw (And.intro hbm hbs))))
  have HM1 := Lib.hid hW1
  have c1 := hbf.cell 0 rfl
  have c2 := hbt.cell 0 rfl
  have c3 := hbw.cell 0 rfl
  have c4 := hbm.cell 0 rfl
  have c5 := hbs.cell 0 rfl
  have HN1 := Lib.hid (h.later hW1)
  have hq := fun k => nt_len_qA (h.later hW1) k
  clear h hf hw hY hl hD hlD hne hmo hJ0 hB0 hbl hbf hbt hbw hbm hbs hW1
  refine calls_of_rfN Tryz.func156 rfl ?_
  simp only [Tryz.ntmps156, List.size_toArray, List.length_cons, List.length_nil, Nat.reduceAdd, Nat.reduceSub, Array.replicate_succ, Array.replicate_zero, List.push_toArray, List.append_toArray, List.nil_append, List.cons_append]
  have z0 : decide ((fn : Int) < 0) = false := by simp
  have z1 : decide ((n : Int) ≤ (fn : Int)) = false := by simp; omega
  have z1n : decide (n ≤ fn) = false := by simp; omega
  go_upto_region 0 with fail
  go_quiet ((go_at_call 27; exact Calls.quiet_of_same (hq _)))
  obtain ⟨wB, hwB⟩ : ∃ y, World.drewN W1 nq = y := ⟨_, rfl⟩
  have hmB : Mod (fun _ => False) W1 wB := by rw [← hwB]; exact Mod.drewN _ _ _
  (try rw [hwB])
  have HMB := Lib.hid hmB
  replace c1 := hmB.cell c1 (fun e => e)
  replace c2 := hmB.cell c2 (fun e => e)
  replace c3 := hmB.cell c3 (fun e => e)
  replace c4 := hmB.cell c4 (fun e => e)
  replace c5 := hmB.cell c5 (fun e => e)
  have l1 := World.block_lt_of_cell? _ _ c1
  have l2 := World.block_lt_of_cell? _ _ c2
  have l3 := World.block_lt_of_cell? _ _ c3
  have l4 := World.block_lt_of_cell? _ _ c4
  have l5 := World.block_lt_of_cell? _ _ c5
  clear hwB hmB hq z0 z1 z1n
  go_upto_region 1 with fail
  go_cut [7] from 20 to 24 (fun s wx => ∃ b7 p G, s = .pointer (some ⟨b7, 0, none⟩) ∧ Blk wx b7 190 [.pointer (some ⟨p, 0, none⟩)] ∧ FrO wx p n (List.replicate n 0) (List.replicate n 0) wo mo [] G ∧ (∀ k, G k → wB.heap.size ≤ k ∧ k ≠ b7) ∧ wB.heap.size ≤ b7 ∧ Mod (fun _ => False) wB wx)
  case first =>
    have HNB := Lib.hid (HN1.out.later HMB.out)
    go_region_law (first | (go_simp; go_at_call 27; refine (nt_len (HNB.out.later (by first | exact Mod.drew _ _ | exact (Mod.drew _ _).thenAlloc _))).mono ?_; rintro e w9 ⟨rfl, rfl⟩) | (go_simp; go_at_call 157; refine (frbegin_any _ n h512 wo mo).mono ?_; rintro e w9 ⟨p, G, rfl, ho9, hg9, hm9⟩; have HO9 := Lib.hid (And.intro ho9 (And.intro hg9 hm9)); (try (have hbk9 := ((Blk.new wB 190 [.pointer none]).keep (Mod.drew (fun _ => False) _) (fun e => e)).keep hm9 (fun e => e))); (try have q9 := hbk9.cell 0 rfl); (try have f9 := hbk9.free 0); (try have HK9 := Lib.hid hbk9); (try clear hbk9); clear ho9 hg9 hm9))
    all_goals
      (try go_wp2_with fail)
      go_meet
      first
        | (have hset : Mod (fun k => k = wB.heap.size) w9 (w9.setCell ⟨wB.heap.size, 0, none⟩ (.pointer (some ⟨p, 0, none⟩))) := Mod.setCell _ _ _ rfl
           have hma : Mod (fun _ => False) wB (wB.alloc (.cells #[.pointer none] 190)).drew := (Mod.alloc _ _ _).of2 (Mod.drew _ _)
           have hza : (wB.alloc (.cells #[.pointer none] 190)).drew.heap.size = wB.heap.size + 1 := heap_size_alloc _ _
           have hGb : ∀ k, G k → wB.heap.size + 1 ≤ k := fun k hk => by rw [← hza]; exact HO9.out.2.1 k hk
           exact ⟨_, p, G, rfl, HK9.out.set 0 _, HO9.out.1.keep hset (fun k hk e => by have h1 := hGb k hk; have h2 : k = wB.heap.size := e; omega), fun k hk => by have h1 := hGb k hk; omega, Nat.le_refl _, (hma.of2 HO9.out.2.2).trans hset (fun _ _ e => e) (fun k hk e => by have h2 : k = wB.heap.size := e; omega)⟩)
        | exact ⟨_, p, G, rfl, Blk.new w9 190 [.pointer (some ⟨p, 0, none⟩)], HO9.out.1.later (Mod.alloc _ _ _), fun k hk => ⟨HO9.out.2.1 k hk, by have := HO9.out.1.lt k hk; omega⟩, HO9.out.2.2.size, ((Mod.drew (fun _ => False) wB).of2 HO9.out.2.2).of2 (Mod.alloc _ _ _)⟩
  case rest =>
    obtain ⟨b7, p, G, rfl, hb7, ho, hg, hsz7, hmc⟩ := hcut
    obtain ⟨wC, hwC⟩ : ∃ x : World, x = wc := ⟨_, rfl⟩
    subst hwC
    have HB7 := Lib.hid hb7
    have HO := Lib.hid ho
    have HG := Lib.hid (And.intro hg hsz7)
    have HMC := Lib.hid hmc
    have q7 := hb7.cell 0 rfl
    replace c1 := hmc.cell c1 (fun e => e)
    replace c5 := hmc.cell c5 (fun e => e)
    have HRC := Lib.hid (frreach_any ho h512 (by simp) fn hfn 0 (by omega) (-1) (by unfold dP; rw [List.getD, List.getElem?_replicate]; split <;> simp))
    clear hb7 ho hg hsz7 hmc c2 c3 c4 l1 l2 l3 l4 l5
    go_wp2_with fail
    refine HRC.out.mono ?_
    rintro e w4 ⟨rfl, G4, ho4, ha4⟩
    have HO4 := Lib.hid ho4
    have HA4 := Lib.hid ha4
    have h4l : ¬ G bf ∧ ¬ G bs ∧ ¬ G b7 := by
      have h1 := HG.out.1
      have h2 := HBX.out.1.lt
      have h3 := HBX.out.2.2.2.2.lt
      have h4 := HM1.out.size
      have h5 := HMB.out.size
      exact ⟨fun e => by have := (h1 bf e).1; omega, fun e => by have := (h1 bs e).1; omega, fun e => (h1 b7 e).2 rfl⟩
    have hb74 := HB7.out.keep ha4.1 h4l.2.2
    have HB74 := Lib.hid hb74
    replace c5 := ha4.1.cell c5 h4l.2.1
    have HL4 := Lib.hid h4l
    clear ho4 ha4 h4l hb74 q7 c1 HRC
    go_wp2_with fail
    refine wp_loop (fun a W => ∃ T S ps us G B h Ds, a.tmps.size = 70 ∧ a.tmps[0]? = some (.func (.yield l) #[] #[]) ∧ a.tmps[1]? = some (.pointer (some ⟨bf, 0, none⟩)) ∧ a.tmps[2]? = some (.pointer (some ⟨bt, 0, none⟩)) ∧ a.tmps[3]? = some (.pointer (some ⟨bw, 0, none⟩)) ∧ a.tmps[4]? = some (.pointer (some ⟨bm, 0, none⟩)) ∧ a.tmps[5]? = some (.pointer (some ⟨bs, 0, none⟩)) ∧ a.tmps[7]? = some (.pointer (some ⟨b7, 0, none⟩)) ∧ a.tmps[28]? = some (.int .i64 (sn : Int)) ∧ a.tmps[29]? = some (.int .i64 (T.length : Int)) ∧ a.defers = marks Ds ∧ SStA J w W wB.heap.size Ds n L (fn : Int) wo mo d sn p b7 bt tp T S ps us G B h (fun _ _ => False) l D R O) (fun a _ => n + 1 - (intOf (a.tmps.getD 29 undef)).toNat) ?hstart ?hround
    case hstart =>
      have hsz0 := HMB.out.size
      have hsz1 := HM1.out.size
      have hsl : l < W1.heap.size := (Array.getElem?_eq_some_iff.1 HL.out).1
      have hsD : D < W1.heap.size := (Array.getElem?_eq_some_iff.1 HD.out).1
      have hmc4 : ∀ q, q < wB.heap.size → ¬ G q := fun q hq e => by have := (HG.out.1 q e).1; omega
      have hml := ((HMB.out.of2 HMC.out).obj HL.out (fun e => e))
      have hmD := ((HMB.out.of2 HMC.out).obj HD.out (fun e => e))
      have hl4 := HA4.out.1.obj hml (hmc4 l (by omega))
      have hD4 := HA4.out.1.obj hmD (hmc4 D (by omega))
      have hG4 : ∀ q, G4 q → wB.heap.size ≤ q ∧ q ≠ b7 := fun q hq => (HA4.out.2 q hq).elim (HG.out.1 q) (fun e => by have h1 := HMC.out.size; have h2 := HB7.out.lt; exact ⟨by omega, by omega⟩)
      have hm4 : Mod (fun _ => False) w w4 := (HM1.out.of2 (HMB.out.of2 HMC.out)).trans HA4.out.1 (fun _ _ e => e) (fun q hq e => hmc4 q (by omega) e)
      have hdz := dP_eq (List.replicate n (0 : Int)) fn (by simpa using hfn)
      rw [List.getElem_replicate] at hdz
      have hbeg := start_okA (mo := mo) (wo := wo) HF.out hfn
      have hvb := start_vA (n := n) (L := L) (d := d) (mo := mo) (wo := wo) hfn
      obtain ⟨S4, ps4, us4, e1, e2, e3, ho4, hp4⟩ := hbeg
      rw [← e1, ← e3] at hvb
      have hb0 := HJ0.out
      have hb0l : ∀ k, B0 k → k < W1.heap.size := hJ.lt _ _ _ hb0.1
      have hj4 : J [] B0 w4 := hJ.keep _ _ _ _ _ (hJ.keep _ _ _ _ _ hb0.1 (HMB.out.of2 HMC.out) (fun _ e => e.elim)) HA4.out.1 (fun k e e2 => hmc4 k (by have := hb0l k e2; omega) e)
      have hbt1 := HBX.out.2.1
      have hbtl := hbt1.lt
      have hb4 := (hbt1.keep (HMB.out.of2 HMC.out) (fun e => e)).keep HA4.out.1 (hmc4 bt (by omega))
      have hsz7 := HG.out.2
      have hszC := HMC.out.size
      have hsz4 := HA4.out.1.size
      refine ⟨[], S4, ps4, us4, G4, B0, [], [], rfl, rfl, rfl, rfl, rfl, rfl, rfl, rfl, rfl, rfl, rfl, ⟨⟨by rw [e1, e2, e3]; exact HO4.out, fun q hq => ⟨(hG4 q hq).1, fun e => e.elim (fun e => e.elim (fun e => (by cases e)) (fun e => by have := hb0l q e; have := (hG4 q hq).1; omega)) (hG4 q hq).2⟩, fun q hq => hq.elim (fun e => e.elim (fun e => (by cases e)) (fun e => by have := hb0l q e; omega)) (fun e => (by rw [e]; exact HB74.out.lt)), ⟨by omega, by omega⟩, hm4⟩, HB74.out, ho4, hp4, hvb, List.Pairwise.nil, Nat.zero_le _, rfl, ⟨hm4, hl4, hD4, ⟨List.nodup_nil, fun _ h => (by cases h)⟩, ⟨by omega, by omega, by omega⟩, fun _ h => (by cases h), hb4, ⟨by omega, hb0.2.2, fun e => (hb0.2.1 bt e).2.2.2 rfl⟩, hj4, fun k hk => ⟨(hb0.2.1 k hk).1, fun e => (by cases e), fun e => by have := hb0l k hk; omega, (hb0.2.1 k hk).2.1, (hb0.2.1 k hk).2.2.1⟩⟩, hsz7⟩⟩
    case hround =>
      rintro ⟨tm, df⟩ W ⟨T, S, ps, us, G, B, h, Ds, hsz, t0, t1, t2, t3, t4, t5, t7, t28, t29, hdf, hst⟩
      simp only at hsz t0 t1 t2 t3 t4 t5 t7 t28 t29 hdf
      obtain ⟨f, hf⟩ : ∃ f : Nat → Value, tm = #[f 0, f 1, f 2, f 3, f 4, f 5, f 6, f 7, f 8, f 9, f 10, f 11, f 12, f 13, f 14, f 15, f 16, f 17, f 18, f 19, f 20, f 21, f 22, f 23, f 24, f 25, f 26, f 27, f 28, f 29, f 30, f 31, f 32, f 33, f 34, f 35, f 36, f 37, f 38, f 39, f 40, f 41, f 42, f 43, f 44, f 45, f 46, f 47, f 48, f 49, f 50, f 51, f 52, f 53, f 54, f 55, f 56, f 57, f 58, f 59, f 60, f 61, f 62, f 63, f 64, f 65, f 66, f 67, f 68, f 69] := ⟨fun k => tm.getD k undef, tmps_form tm 70 hsz⟩
      subst hf hdf
      have e0 : f 0 = .func (.yield l) #[] #[] := Option.some.inj t0
      have e1 : f 1 = .pointer (some ⟨bf, 0, none⟩) := Option.some.inj t1
      have e2 : f 2 = .pointer (some ⟨bt, 0, none⟩) := Option.some.inj t2
      have e3 : f 3 = .pointer (some ⟨bw, 0, none⟩) := Option.some.inj t3
      have e4 : f 4 = .pointer (some ⟨bm, 0, none⟩) := Option.some.inj t4
      have e5 : f 5 = .pointer (some ⟨bs, 0, none⟩) := Option.some.inj t5
      have e7 : f 7 = .pointer (some ⟨b7, 0, none⟩) := Option.some.inj t7
      have e28 : f 28 = .int .i64 (sn : Int) := Option.some.inj t28
      have e29 : f 29 = .int .i64 (T.length : Int) := Option.some.inj t29
      clear hsz t0 t1 t2 t3 t4 t5 t7 t28 t29
      rw [e0, e1, e2, e3, e4, e5, e7, e28, e29]
      clear e0 e1 e2 e3 e4 e5 e7 e28 e29
      generalize f 6 = u6
      generalize f 8 = u8
      generalize f 9 = u9
      generalize f 10 = u10
      generalize f 11 = u11
      generalize f 12 = u12
      generalize f 13 = u13
      generalize f 14 = u14
      generalize f 15 = u15
      generalize f 16 = u16
      generalize f 17 = u17
      generalize f 18 = u18
      generalize f 19 = u19
      generalize f 20 = u20
      generalize f 21 = u21
      generalize f 22 = u22
      generalize f 23 = u23
      generalize f 24 = u24
      generalize f 25 = u25
      generalize f 26 = u26
      generalize f 27 = u27
      generalize f 30 = u30
      generalize f 31 = u31
      generalize f 32 = u32
      generalize f 33 = u33
      generalize f 34 = u34
      generalize f 35 = u35
      generalize f 36 = u36
      generalize f 37 = u37
      generalize f 38 = u38
      generalize f 39 = u39
      generalize f 40 = u40
      generalize f 41 = u41
      generalize f 42 = u42
      generalize f 43 = u43
      generalize f 44 = u44
      generalize f 45 = u45
      generalize f 46 = u46
      generalize f 47 = u47
      generalize f 48 = u48
      generalize f 49 = u49
      generalize f 50 = u50
      generalize f 51 = u51
      generalize f 52 = u52
      generalize f 53 = u53
      generalize f 54 = u54
      generalize f 55 = u55
      generalize f 56 = u56
      generalize f 57 = u57
      generalize f 58 = u58
      generalize f 59 = u59
      generalize f 60 = u60
      generalize f 61 = u61
      generalize f 62 = u62
      generalize f 63 = u63
      generalize f 64 = u64
      generalize f 65 = u65
      generalize f 66 = u66
      generalize f 67 = u67
      generalize f 68 = u68
      generalize f 69 = u69
      clear f
      have HST := Lib.hid hst
      have htl : T.length ≤ n := ord_tlenA hst.o HF.out
      obtain ⟨i, hi⟩ : ∃ i, T.length = i := ⟨_, rfl⟩
      rw [hi] at htl ⊢
      have HI := Lib.hid hi
      clear hst hi HO4 HA4 HB74 HL4 HO HG HB7 c5
      by_cases his : (i : Int) < (sn : Int)
      case neg =>
        have z0 : decide ((i : Int) < (sn : Int)) = false := decide_eq_false his
        have z0n : decide (i < sn) = false := decide_eq_false (by omega)
        have hsp : StopsOf n L fn wo d sn h := ⟨T, S, us, by rw [← HMO.out]; exact HST.out.o, HST.out.v, HST.out.pw, HST.out.le, .inl (by have := HST.out.le; have := HI.out; omega), HST.out.hh⟩
        have HSP := Lib.hid hsp
        clear his hsp
        go_wp2_with fail
        (try simp only [Exit.inBlock, Exit.then])
        exact set_noA hJ HST.out.bs HSP.out Tryz.func156 (by first | exact .inl rfl | exact .inr rfl)
      case pos =>
        have z0 : decide ((i : Int) < (sn : Int)) = true := decide_eq_true his
        have z0n : decide (i < sn) = true := decide_eq_true (by omega)
        have hb7W := HST.out.b
        have q7 := hb7W.cell 0 rfl
        have hids := HST.out.s.o.ids
        have hfew := HST.out.o.few hids.2
        have hfew2 : S.length ≤ n := hfew
        obtain ⟨pb, vb, F0, hfm, hpbl, hvbl, hGq⟩ := HST.out.s.o
        have hpop := WH.hpop_any p W S F0 hfm.hp (by omega)
        have HPO := Lib.hid hpop
        have HFM := Lib.hid (And.intro hfm (And.intro hpbl (And.intro hvbl hGq)))
        have HIDS := Lib.hid hids
        clear hb7W hids hfew hfew2 hpop hfm hpbl hvbl hGq his
        go_wp2_with fail
        refine HPO.out.mono ?_
        cases S with
        | nil =>
          rintro e w5 ⟨rfl, hp5, hm5⟩
          have hm5' : Mod G W w5 := hm5.mono (fun k _ hk => by rw [HFM.out.2.2.2]; exact .inl hk)
          have hbs5 := (HST.out.bs.keep hJ hm5' (fun k hk => ⟨(HST.out.s.g k hk).1, fun e => (HST.out.s.g k hk).2 (.inl (.inl e)), fun e => (HST.out.s.g k hk).2 (.inl (.inr e))⟩))
          have HBS := Lib.hid hbs5
          have hsp : StopsOf n L fn wo d sn h := ⟨T, [], us, by rw [← HMO.out]; exact HST.out.o, HST.out.v, HST.out.pw, HST.out.le, .inr rfl, HST.out.hh⟩
          have HSP := Lib.hid hsp
          clear hsp hp5 hm5 hm5' hbs5 q7
          go_upto_region 6 with fail
          go_quiet (fail)
          go_wp2_with fail
          (try simp only [Exit.inBlock, Exit.then])
          exact set_noA hJ (HBS.out.keep hJ (((Mod.alloc _ _ _).of2 (Mod.alloc _ _ _)).of2 (Mod.drewN (fun _ => False) _ _)) (fun _ e => e.elim)) HSP.out Tryz.func156 (by first | exact .inl rfl | exact .inr rfl)
        | cons x S =>
          rintro e w5 ⟨rfl, hp5, hm5⟩
          go_upto_region 6 with fail
          obtain ⟨v, hv, hvn, hvT, h0v, hxe, hord⟩ := HST.out.o.pop HF.out HIDS.out.1 HIDS.out.2
          have hpin := HST.out.i.pop hv hxe hvT HIDS.out.2
          have hvin := HST.out.v.pop hv hxe hvT
          have hah : ∀ t ∈ T, ahead d t v := fun t ht => HST.out.o.low t ht v hvT h0v
          replace hvn : v < n := hvn
          obtain ⟨x1, x2⟩ := x
          simp only at hv hxe
          simp only
          subst hv
          obtain ⟨kk, hkk⟩ : ∃ kk, x2 = kk := ⟨_, rfl⟩
          subst hkk
          have hkt := netW_top h512 HF.out v
          rw [← hxe] at h0v hkt
          have hm5' : Mod G W w5 := hm5.mono (fun k _ hk => by rw [HFM.out.2.2.2]; exact .inl hk)
          have hbs5 := (HST.out.bs.keep hJ hm5' (fun k hk => ⟨(HST.out.s.g k hk).1, fun e => (HST.out.s.g k hk).2 (.inl (.inl e)), fun e => (HST.out.s.g k hk).2 (.inl (.inr e))⟩))
          have hfm5 : FrM w5 p pb vb n ps us wo mo S F0 := ⟨hp5, Own.keep HFM.out.1.past hm5 (fun q hq e2 => HFM.out.1.ap.1 (by have e3 : pb = q := Option.some.inj hq; rw [e3]; exact e2)), Own.keep HFM.out.1.via hm5 (fun q hq e2 => HFM.out.1.ap.2.1 (by have e3 : vb = q := Option.some.inj hq; rw [e3]; exact e2)), HFM.out.1.ap⟩
          have hsz5 := hm5.size
          have hfo5 : FrO w5 p n ps us wo mo S G := ⟨pb, vb, F0, hfm5, by have := HFM.out.2.1; omega, by have := HFM.out.2.2.1; omega, HFM.out.2.2.2⟩
          have hs5 := HST.out.s.aft hfo5 ⟨hm5', fun k hk => .inl hk⟩
          have hb75 := HST.out.b.keep hm5' (fun e => (HST.out.s.g b7 e).2 (.inr rfl))
          obtain ⟨h05, mb5, hbl5⟩ := hfm5.cells
          have hlv := hfm5.lenv
          obtain ⟨vi, hvi⟩ : ∃ x, us[v]'(by omega) = x := ⟨_, rfl⟩
          have hh8 : h ++ [((v : Int), x2, vi)] = stpsOf d us (T ++ [v]) := by
            rw [HST.out.hh]
            unfold stpsOf
            rw [List.map_append, List.map_singleton, ← hxe, dP_eq us v (by omega), hvi]
          obtain ⟨eb, eo, hpl, qv⟩ := rd1 (Rd.ofOwn hfm5.via) v (by omega)
          rw [elemA_lit] at hpl
          obtain ⟨rfl, rfl⟩ : vb = eb ∧ v = eo := by injection hpl with h1 h2; exact ⟨h1, h2⟩
          rw [hvi] at qv
          obtain ⟨b8, hb8⟩ : ∃ y, w5.heap.size = y := ⟨_, rfl⟩
          obtain ⟨w6, hw6⟩ : ∃ y, w5.alloc (.cells #[.int .i64 (v : Int)] 3) = y := ⟨_, rfl⟩
          have hm6 : Mod (fun _ => False) w5 w6 := by rw [← hw6]; exact Mod.alloc _ _ _
          have hB8 : Blk w6 b8 3 [.int .i64 (v : Int)] := by rw [← hw6, ← hb8]; exact Blk.new w5 3 [.int .i64 (v : Int)]
          have hz6 : w6.heap.size = b8 + 1 := by rw [← hw6, ← hb8]; exact heap_size_alloc _ _
          obtain ⟨b9, hb9⟩ : ∃ y, b8 + 1 = y := ⟨_, rfl⟩
          obtain ⟨w7, hw7⟩ : ∃ y, w6.alloc (.cells #[.int .i64 x2] 3) = y := ⟨_, rfl⟩
          have hm7 : Mod (fun _ => False) w6 w7 := by rw [← hw7]; exact Mod.alloc _ _ _
          have hB9 : Blk w7 b9 3 [.int .i64 x2] := by rw [← hw7, ← hb9, ← hz6]; exact Blk.new w6 3 [.int .i64 x2]
          have hz7 : w7.heap.size = b9 + 1 := by rw [← hw7, ← hb9, ← hz6]; exact heap_size_alloc _ _
          have hs7 := (hs5.guest hm6 (g := b8) (by omega) (by omega)).guest hm7 (g := b9) (by omega) (by omega)
          have hbs7 := hbs5.keep hJ (hm6.of2 hm7) (fun _ e => e.elim)
          have hb77 := hb75.keep (hm6.of2 hm7) (fun e => e)
          have hB87 := hB8.keep hm7 (fun e => e)
          have q7 := hb77.cell 0 rfl
          have q8 := hB87.cell 0 rfl
          have q9 := hB9.cell 0 rfl
          have q3 := ((hbl5.keep (hm6.of2 hm7) (fun e => e)).cell 3 rfl)
          replace qv := (hm6.of2 hm7).cell qv (fun e => e)
          have hix : ∀ wx, (Instr.indexAt 40 (.slice (some ⟨vb, 0, none⟩) n n) (.int .i64 (v : Int))).run Tryz.prog wx = .ok (.pointer (some ⟨vb, v, none⟩)) wx := fun wx => by
            obtain ⟨iI, hiI, hzI, hsI, hbI⟩ := info_parts Nt.infoI
            have h := run_indexS (P := Tryz.prog) wx 40 3 iI 1 Tryz.underlying40 hiI hsI (some ⟨vb, 0, none⟩) n n v hvn (by simp)
            rw [elemA_lit] at h; exact h
          have HS7 := Lib.hid (And.intro hs7 (And.intro hb77 (And.intro hB87 hB9)))
          have HBS7 := Lib.hid hbs7
          have HORD := Lib.hid (And.intro hord (And.intro hpin hah))
          have HVI := Lib.hid (And.intro hvin hh8)
          have HXE := Lib.hid hxe
          have HVN := Lib.hid hvn
          have HKT := Lib.hid (And.intro h0v hkt)
          clear hs5 hbs5 hfm5 hfo5 hb75 hbl5 hlv hvi hpl hB8 hB9 hs7 hbs7 hb77 hB87 hord hpin hah hm5 hm5' hp5 hxe hvT h0v hkt hvn hm6 hm7 hvin hh8
          (try rw [hw6])
          (try rw [hb8])
          (try rw [hz6])
          (try rw [hb9])
          (try rw [hw7])
          have HB89 : Hid (wB.heap.size ≤ b8 ∧ b8 < b9 ∧ W.heap.size ≤ b8) := Lib.hid ⟨by have := HST.out.s.b.2; omega, by omega, by omega⟩
          clear hw6 hb8 hw7 hb9 hsz5
          refine wp_region_mid (act := ?act6) 14 _ rfl (fun i => ([.int .i64 0, .bool false, .bool false, .func (.yield l) #[] #[], .int .i64 (v : Int), .int .i64 x2, .pointer (some ⟨p, 0, none⟩), .pointer (some ⟨p, 0, none⟩), .pointer (some ⟨p, 3, none⟩), .slice (some ⟨vb, 0, none⟩) n n, .int .i64 (v : Int), .pointer (some ⟨vb, v, none⟩), .int .i64 vi, .agg #[.int .i64 (v : Int), .int .i64 x2, .int .i64 vi], .bool true, .bool false, .bool false] : List Value).getD i undef) (fun i => ([[], [0], [1], [2], [2], [2], [2], [2, 6], [2, 7], [2, 8], [2], [2, 9, 10], [2, 11], [2, 4, 5, 12], [2, 3, 13], [2, 14], [2, 15]] : List (List Nat)).getD i []) (fun W' => Mod (fun _ => False) w7 W') (SNA J w7 h ((v : Int), x2, vi) B l D R O) (by kernel_rfl) (by kernel_rfl) (by kernel_rfl) (by kernel_rfl) (by kernel_rfl) ?hact6 (Mod.drew _ _) ?hops6 ?hy6 ?hend6
          case hact6 => intro vs; simp only [putAll, Nat.zero_add, Nat.reduceAdd, Act.put, List.setIfInBounds_toArray, List.set_cons_succ, List.set_cons_zero]; exact rfl
          case hops6 =>
            refine opsOkY_cons ?_ ?_
            · intro _ K vs W hph hD hK
              clear hD
              try dsimp only at hK ⊢
              simp only [Act.put, List.setIfInBounds_toArray, List.set_cons_succ, List.set_cons_zero] at hK
              clear hph
              go_wp2
              exact hK
            refine opsOkY_cons ?_ ?_
            · intro _ K vs W hph hD hK
              have dq0 : vs 0 = .int .i64 0 := hD 0 (by decide)
              clear hD
              try dsimp only at hK ⊢
              simp only [Act.put, List.setIfInBounds_toArray, List.set_cons_succ, List.set_cons_zero] at hK
              generalize vs 0 = vq0 at hK dq0 ⊢
              subst vq0
              clear hph
              go_wp2
              exact hK
            refine opsOkY_cons ?_ ?_
            · intro _ K vs W hph hD hK
              have dq1 : vs 1 = .bool false := hD 1 (by decide)
              clear hD
              try dsimp only at hK ⊢
              simp only [Act.put, List.setIfInBounds_toArray, List.set_cons_succ, List.set_cons_zero] at hK
              generalize vs 1 = vq1 at hK dq1 ⊢
              subst vq1
              clear hph
              go_wp2
              exact hK
            refine opsOkY_cons ?_ ?_
            · intro _ K vs W hph hD hK
              have dq2 : vs 2 = .bool false := hD 2 (by decide)
              clear hD
              try dsimp only at hK ⊢
              simp only [Act.put, List.setIfInBounds_toArray, List.set_cons_succ, List.set_cons_zero] at hK
              generalize vs 2 = vq2 at hK dq2 ⊢
              subst vq2
              clear hph
              go_wp2
              exact hK
            refine opsOkY_cons ?_ ?_
            · intro _ K vs W hph hD hK
              have dq2 : vs 2 = .bool false := hD 2 (by decide)
              clear hD
              try dsimp only at hK ⊢
              simp only [Act.put, List.setIfInBounds_toArray, List.set_cons_succ, List.set_cons_zero] at hK
              generalize vs 2 = vq2 at hK dq2 ⊢
              subst vq2
              have qq := (hph (by kernel_rfl)).cell q8 (fun e => e)
              clear hph
              go_wp2
              exact hK
            refine opsOkY_cons ?_ ?_
            · intro _ K vs W hph hD hK
              have dq2 : vs 2 = .bool false := hD 2 (by decide)
              clear hD
              try dsimp only at hK ⊢
              simp only [Act.put, List.setIfInBounds_toArray, List.set_cons_succ, List.set_cons_zero] at hK
              generalize vs 2 = vq2 at hK dq2 ⊢
              subst vq2
              have qq := (hph (by kernel_rfl)).cell q9 (fun e => e)
              clear hph
              go_wp2
              exact hK
            refine opsOkY_cons ?_ ?_
            · intro _ K vs W hph hD hK
              have dq2 : vs 2 = .bool false := hD 2 (by decide)
              clear hD
              try dsimp only at hK ⊢
              simp only [Act.put, List.setIfInBounds_toArray, List.set_cons_succ, List.set_cons_zero] at hK
              generalize vs 2 = vq2 at hK dq2 ⊢
              subst vq2
              have qq := (hph (by kernel_rfl)).cell q7 (fun e => e)
              clear hph
              go_wp2
              exact hK
            refine opsOkY_cons ?_ ?_
            · intro _ K vs W hph hD hK
              have dq2 : vs 2 = .bool false := hD 2 (by decide)
              have dq6 : vs 6 = .pointer (some ⟨p, 0, none⟩) := hD 6 (by decide)
              clear hD
              try dsimp only at hK ⊢
              simp only [Act.put, List.setIfInBounds_toArray, List.set_cons_succ, List.set_cons_zero] at hK
              generalize vs 2 = vq2 at hK dq2 ⊢
              subst vq2
              generalize vs 6 = vq6 at hK dq6 ⊢
              subst vq6
              clear hph
              go_wp2
              exact hK
            refine opsOkY_cons ?_ ?_
            · intro _ K vs W hph hD hK
              have dq2 : vs 2 = .bool false := hD 2 (by decide)
              have dq7 : vs 7 = .pointer (some ⟨p, 0, none⟩) := hD 7 (by decide)
              clear hD
              try dsimp only at hK ⊢
              simp only [Act.put, List.setIfInBounds_toArray, List.set_cons_succ, List.set_cons_zero] at hK
              generalize vs 2 = vq2 at hK dq2 ⊢
              subst vq2
              generalize vs 7 = vq7 at hK dq7 ⊢
              subst vq7
              clear hph
              go_wp2
              exact hK
            refine opsOkY_cons ?_ ?_
            · intro _ K vs W hph hD hK
              have dq2 : vs 2 = .bool false := hD 2 (by decide)
              have dq8 : vs 8 = .pointer (some ⟨p, 3, none⟩) := hD 8 (by decide)
              clear hD
              try dsimp only at hK ⊢
              simp only [Act.put, List.setIfInBounds_toArray, List.set_cons_succ, List.set_cons_zero] at hK
              generalize vs 2 = vq2 at hK dq2 ⊢
              subst vq2
              generalize vs 8 = vq8 at hK dq8 ⊢
              subst vq8
              have qq := (hph (by kernel_rfl)).cell q3 (fun e => e)
              clear hph
              go_wp2
              exact hK
            refine opsOkY_cons ?_ ?_
            · intro _ K vs W hph hD hK
              have dq2 : vs 2 = .bool false := hD 2 (by decide)
              clear hD
              try dsimp only at hK ⊢
              simp only [Act.put, List.setIfInBounds_toArray, List.set_cons_succ, List.set_cons_zero] at hK
              generalize vs 2 = vq2 at hK dq2 ⊢
              subst vq2
              have qq := (hph (by kernel_rfl)).cell q8 (fun e => e)
              clear hph
              go_wp2
              exact hK
            refine opsOkY_cons ?_ ?_
            · intro _ K vs W hph hD hK
              have dq2 : vs 2 = .bool false := hD 2 (by decide)
              have dq9 : vs 9 = .slice (some ⟨vb, 0, none⟩) n n := hD 9 (by decide)
              have dq10 : vs 10 = .int .i64 (v : Int) := hD 10 (by decide)
              clear hD
              try dsimp only at hK ⊢
              simp only [Act.put, List.setIfInBounds_toArray, List.set_cons_succ, List.set_cons_zero] at hK
              generalize vs 2 = vq2 at hK dq2 ⊢
              subst vq2
              generalize vs 9 = vq9 at hK dq9 ⊢
              subst vq9
              generalize vs 10 = vq10 at hK dq10 ⊢
              subst vq10
              clear hph
              go_wp2
              exact hK
            refine opsOkY_cons ?_ ?_
            · intro _ K vs W hph hD hK
              have dq2 : vs 2 = .bool false := hD 2 (by decide)
              have dq11 : vs 11 = .pointer (some ⟨vb, v, none⟩) := hD 11 (by decide)
              clear hD
              try dsimp only at hK ⊢
              simp only [Act.put, List.setIfInBounds_toArray, List.set_cons_succ, List.set_cons_zero] at hK
              generalize vs 2 = vq2 at hK dq2 ⊢
              subst vq2
              generalize vs 11 = vq11 at hK dq11 ⊢
              subst vq11
              have qq := (hph (by kernel_rfl)).cell qv (fun e => e)
              clear hph
              go_wp2
              exact hK
            refine opsOkY_cons ?_ ?_
            · intro _ K vs W hph hD hK
              have dq2 : vs 2 = .bool false := hD 2 (by decide)
              have dq4 : vs 4 = .int .i64 (v : Int) := hD 4 (by decide)
              have dq5 : vs 5 = .int .i64 x2 := hD 5 (by decide)
              have dq12 : vs 12 = .int .i64 vi := hD 12 (by decide)
              clear hD
              try dsimp only at hK ⊢
              simp only [Act.put, List.setIfInBounds_toArray, List.set_cons_succ, List.set_cons_zero] at hK
              generalize vs 2 = vq2 at hK dq2 ⊢
              subst vq2
              generalize vs 4 = vq4 at hK dq4 ⊢
              subst vq4
              generalize vs 5 = vq5 at hK dq5 ⊢
              subst vq5
              generalize vs 12 = vq12 at hK dq12 ⊢
              subst vq12
              clear hph
              go_wp2
              exact hK
            refine opsOkY_cons (fun h => absurd rfl h) ?_
            refine opsOkY_cons ?_ ?_
            · intro _ K vs W hph hD hK
              have dq2 : vs 2 = .bool false := hD 2 (by decide)
              have dq14 : vs 14 = .bool true := hD 14 (by decide)
              clear hD
              try dsimp only at hK ⊢
              simp only [Act.put, List.setIfInBounds_toArray, List.set_cons_succ, List.set_cons_zero] at hK
              generalize vs 2 = vq2 at hK dq2 ⊢
              subst vq2
              generalize vs 14 = vq14 at hK dq14 ⊢
              subst vq14
              clear hph
              go_wp2
              exact hK
            refine opsOkY_cons ?_ ?_
            · intro _ K vs W hph hD hK
              have dq2 : vs 2 = .bool false := hD 2 (by decide)
              have dq15 : vs 15 = .bool false := hD 15 (by decide)
              clear hD
              try dsimp only at hK ⊢
              simp only [Act.put, List.setIfInBounds_toArray, List.set_cons_succ, List.set_cons_zero] at hK
              generalize vs 2 = vq2 at hK dq2 ⊢
              subst vq2
              generalize vs 15 = vq15 at hK dq15 ⊢
              subst vq15
              clear hph
              go_wp2
              exact hK
            exact opsOkY_nil
          case hy6 =>
            intro K vs W6 hR hD hK
            have dq2 : vs 2 = .bool false := hD 2 (by decide)
            have dq3 : vs 3 = .func (.yield l) #[] #[] := hD 3 (by decide)
            have dq13 : vs 13 = .agg #[.int .i64 (v : Int), .int .i64 x2, .int .i64 vi] := hD 13 (by decide)
            clear hD
            try dsimp only at hK ⊢
            simp only [Act.put, List.setIfInBounds_toArray] at hK
            generalize vs 2 = vq2 at hK dq2 ⊢
            subst vq2
            generalize vs 3 = vq3 at hK dq3 ⊢
            subst vq3
            generalize vs 13 = vq13 at hK dq13 ⊢
            subst vq13
            have hb6 := HBS7.out.keep hJ hR (fun _ e => e.elim)
            have hR6z := hR.size
            obtain ⟨fn6, tmps6, assign6, body6, hy, hR6⟩ := HY.out (W6, h, B, ((v : Int), x2, vi)) W6 ⟨hb6.md, Mod.refl _ _, hb6.j, fun k hk => ⟨(hb6.b k hk).1, (hb6.b k hk).2.2.2.1, (hb6.b k hk).2.2.2.2, hJ.lt _ _ _ hb6.j k hk⟩, ⟨(Array.getElem?_eq_some_iff.1 hb6.hl).1, (Array.getElem?_eq_some_iff.1 hb6.hD).1⟩, by show h.length ≤ 512; rw [HST.out.hh]; unfold stpsOf; rw [List.length_map, HI.out]; omega⟩ hb6.hl hb6.hD
            have HZ6 := Lib.hid hR6z
            dsimp only [rndA] at hy
            have HR6 := Lib.hid hR6
            have HK6 := Lib.hid hK
            have HM6 := Lib.hid hR
            clear hR6 hK hR hb6 hR6z q7 q8 q9 q3 qv hix
            gi_wp2_with fail
            first | refine HR6.out.mono ?_ | refine ⟨rfl, HR6.out.mono ?_⟩ | refine ⟨trivial, rfl, HR6.out.mono ?_⟩
            rintro e W9 ⟨rfl, ⟨B', hj9, hm9, hb9⟩, hl9, hd9⟩
            have HN9 := Lib.hid (show SNA J w7 h ((v : Int), x2, vi) B l D R O W9 from ⟨B', hj9, HM6.out.trans hm9 (fun _ _ e => e.elim) (fun _ _ e => e), fun k hk => ⟨(hb9 k hk).1.imp id (fun e => by have e2 : W6.heap.size ≤ k := e; have := HZ6.out; omega), (hb9 k hk).2⟩, hl9, hd9⟩)
            clear hj9 hm9 hb9 hl9 hd9
            gi_wp2_with fail
            exact HK6.out W9 HN9.out
          case hend6 =>
            intro vs W8 hN hV
            have hV16 := hV 16 (by decide)
            clear hV
            try dsimp only at hV16 ⊢
            generalize vs 0 = y0
            generalize vs 1 = y1
            generalize vs 2 = y2
            generalize vs 3 = y3
            generalize vs 4 = y4
            generalize vs 5 = y5
            generalize vs 6 = y6
            generalize vs 7 = y7
            generalize vs 8 = y8
            generalize vs 9 = y9
            generalize vs 10 = y10
            generalize vs 11 = y11
            generalize vs 12 = y12
            generalize vs 13 = y13
            generalize vs 14 = y14
            generalize vs 15 = y15
            generalize vs 16 = y16 at hV16 ⊢
            subst hV16
            clear q7 q8 q9 q3 qv hix
            obtain ⟨B', hj8, hm8, hb8, hl8, hd8⟩ := hN
            have HM8 := Lib.hid hm8
            have hb7s := HBS7.out
            have hs7 := HS7.out.1
            have hlw := HLD.out.1.1
            have hlt7 := hb7s.lt
            have hbl7 := hb7s.bl
            have hz89 := HB89.out
            have hz7l := HS7.out.2.2.2.lt
            have hdsl : ∀ E ∈ Ds, E < w7.heap.size := fun E hE => (Array.getElem?_eq_some_iff.1 (hb7s.mks.2 E hE)).1
            have hb7l := HS7.out.2.1.lt
            have hll7 := (Array.getElem?_eq_some_iff.1 hb7s.hl).1
            have hB1 := HST.out.b7
            have hmz8 := hm8.size
            have hbs8 : BsA J w W8 wB.heap.size Ds l D R O bt tp b7 (h ++ [((v : Int), x2, vi)]) B' := ⟨hb7s.md.trans hm8 (fun _ _ e => e) (fun k hk e => by rcases e with e | e; (omega); have := (hb7s.b k e).1; omega), hl8, hd8, hb7s.mks.keep hm8 (fun E hE e => by rcases e with e | e; (have := hb7s.ds E hE; omega); exact (hb7s.b E e).2.1 hE), hb7s.lt, hb7s.ds, hb7s.bx.keep hm8 (fun e => by rcases e with e | e; (exact hbl7.2.1 e); exact hbl7.2.2 e), ⟨hbl7.1, hbl7.2.1, fun e => by rcases (hb8 bt e).1 with e | e; (exact hbl7.2.2 e); omega⟩, hj8, fun k hk => by
              have h2 := (hb8 k hk).2
              rcases (hb8 k hk).1 with e | e
              · exact hb7s.b k e
              · have h3 := hs7.b; exact ⟨by omega, fun e2 => by have := hdsl k e2; omega, by omega, h2.1, h2.2⟩⟩
            have hs8 : Sst w W8 wB.heap.size (fun k => (((k ∈ Ds ∨ B' k) ∨ k = b7) ∨ k = b8) ∨ k = b9) p n ps us wo mo S G := ⟨hs7.o.keep hm8 (fun k hk e => by rcases e with e | e; (have := (hs7.g k hk).1; omega); exact (hs7.g k hk).2 (.inl (.inl (.inl (.inr e))))), fun k hk => ⟨(hs7.g k hk).1, fun e => by
              rcases e with ((((e | e) | e) | e) | e)
              · exact (hs7.g k hk).2 (.inl (.inl (.inl (.inl e))))
              · rcases (hb8 k e).1 with e | e
                · exact (hs7.g k hk).2 (.inl (.inl (.inl (.inr e))))
                · have := hs7.o.lt k hk; omega
              · exact (hs7.g k hk).2 (.inl (.inl (.inr e)))
              · exact (hs7.g k hk).2 (.inl (.inr e))
              · exact (hs7.g k hk).2 (.inr e)⟩, fun k hk => by
              rcases hk with ((((e | e) | e) | e) | e)
              · have := hdsl k e; omega
              · exact hJ.lt _ _ _ hj8 k e
              · omega
              · have := HS7.out.2.2.1.lt; omega
              · omega, ⟨hs7.b.1, by have := hs7.b.2; omega⟩, hbs8.md⟩
            have hne : ∀ k, k = b7 ∨ k = b8 ∨ k = b9 → ¬ (k = l ∨ B k) := fun k hk e => by
              have h3 := hb7s.lt.1
              rcases e with e | e
              · rcases hk with hk | hk | hk <;> omega
              · rcases hk with hk | hk | hk
                · exact (hb7s.b k e).2.2.1 hk
                · have := hJ.lt _ _ _ HST.out.bs.j k e; have := HB89.out; omega
                · have := hJ.lt _ _ _ HST.out.bs.j k e; have := HB89.out; omega
            have hb78 := HS7.out.2.1.keep hm8 (hne b7 (.inl rfl))
            have hb88 := HS7.out.2.2.1.keep hm8 (hne b8 (.inr (.inl rfl)))
            have hb98 := HS7.out.2.2.2.keep hm8 (hne b9 (.inr (.inr rfl)))
            have q2 := hbs8.bx.cell 0 rfl
            have q8 := hb88.cell 0 rfl
            have HS8 := Lib.hid (And.intro hs8 (And.intro hb78 (And.intro hb88 (And.intro hb98 hbs8))))
            clear hj8 hb8 hm8 hl8 hd8 hb7s hs7 hlw hlt7 hbl7 hz89 hz7l hdsl hb7l hll7 hB1 hmz8 hbs8 hs8 hne hb78 hb88 hb98
            go_wp2_with fail
            refine (nt_each W8 tp (v : Int)).mono ?_
            rintro e w9 ⟨b1, b2, rfl, hb1, hb2, _, _, hm9⟩
            have HB12 := Lib.hid (And.intro hb1 hb2)
            have HM9 := Lib.hid hm9
            clear hb1 hb2 hm9 q2 q8
            go_wp2_with fail
            obtain ⟨D2, hD2⟩ : ∃ y, y = w9.heap.size := ⟨_, rfl⟩
            obtain ⟨l2, hl2⟩ : ∃ y, y = w9.heap.size + 1 := ⟨_, rfl⟩
            obtain ⟨ln, hln⟩ : ∃ y, (outL L (v : Int)).length = y := ⟨_, rfl⟩
            have HLN := Lib.hid hln
            have HDL := Lib.hid (And.intro hD2 hl2)
            obtain ⟨Z, hZ⟩ : ∃ Z : Nat → Prop, Z = fun k => ((((((k ∈ Ds ∨ B' k) ∨ k = b7) ∨ k = b8) ∨ k = b9) ∨ k = D2) ∨ k = l2) := ⟨_, rfl⟩
            obtain ⟨Q, hQ⟩ : ∃ Q : Nat → World → Prop, Q = fun j W' => QIA J w W' wB.heap.size Z n L (fn : Int) wo mo d p b7 b8 b9 v x2 (T ++ [v]) Ds bt tp (h ++ [((v : Int), x2, vi)]) B' l D R O (fun e b => b = v ∧ ∃ a ∈ (outL L (v : Int)).drop j, a.t = (e : Int)) := ⟨_, rfl⟩
            have hB9s : wB.heap.size ≤ w9.heap.size := by have := HS8.out.1.b.2; have := HM9.out.size; omega
            have hqs : ∀ j W W', Q j W → Mod (fun _ => False) W W' → Q j W' := fun j W W' h hm => by rw [hQ] at h ⊢; exact h.later hJ hm
            have hqm : ∀ j W, Q j W → Mod (fun _ => False) w W := fun j W h => by rw [hQ] at h; exact h.md
            have hdsz : ∀ E ∈ Ds, E < w9.heap.size := fun E hE => by
              have := (Array.getElem?_eq_some_iff.1 (HS8.out.2.2.2.2.mks.2 E hE)).1
              have := HM9.out.size; omega
            have hbsz : ∀ k, B' k → k < w9.heap.size := fun k hk => by
              have := hJ.lt _ _ _ HS8.out.2.2.2.2.j k hk
              have := HM9.out.size; omega
            have hb789 : b7 < w9.heap.size ∧ b8 < w9.heap.size ∧ b9 < w9.heap.size := by
              have h1 := HS8.out.2.1.lt; have h2 := HS8.out.2.2.1.lt; have h3 := HS8.out.2.2.2.1.lt; have := HM9.out.size; omega
            have hqp : ∀ j W (o : Obj), Q j W → Q j (W.putObj l2 o) := fun j W o h => by
              rw [hQ] at h ⊢
              exact h.keep hJ (Mod.putObj W l2 o) (fun k hk => by
                have e : k = l2 := hk
                subst e
                refine ⟨by omega, by rw [hZ]; exact .inr rfl, by omega, by omega, by omega, fun e => by have := hdsz _ e; omega, fun e => by have := hbsz _ e; omega⟩)
            have HQS := Lib.hid hqs
            have HQM := Lib.hid hqm
            have HQP := Lib.hid hqp
            have HZB := Lib.hid hbsz
            have HZS := Lib.hid (And.intro hdsz (And.intro hb789 hB9s))
            clear hqs hqm hqp hdsz hbsz hb789 hB9s hln
            refine wp_rangeFunc_asg (gf := 161) (la := #[]) (lb := #[.pointer (some ⟨b1, 0, none⟩), .pointer (some ⟨b2, 0, none⟩)]) rfl (enters_of Tryz.func161 (by kernel_rfl) rfl) (arcE (outL L (v : Int))) (fun _ => rfl) l2 D2 hD2 hl2 (fun W' => Q 0 W' ∧ Mod (fun _ => False) w9 W') (fun j W' => j < (outL L (v : Int)).length ∧ Q j W') (fun j => Q (j + 1)) (Q ln) (fun j W' o h => HQP.out _ W' o h) (fun j W' o h => ⟨h.1, HQP.out j W' o h.2⟩) (fun W' o h => HQP.out _ W' o h) ?start (fun j b W' => ∃ g, (b.tmps.size = 70 ∧ b.tmps[7]? = some (.pointer (some ⟨b7, 0, none⟩)) ∧ b.tmps[8]? = some (.pointer (some ⟨b8, 0, none⟩)) ∧ b.tmps[9]? = some (.pointer (some ⟨b9, 0, none⟩)) ∧ b.tmps[11]? = some (.pointer (some ⟨g, 0, none⟩))) ∧ g ≠ l2 ∧ j < (outL L (v : Int)).length ∧ Q j W' ∧ Blk W' g 50 (c4 ((outL L (v : Int)).getD j ⟨0, 0, 0, 0⟩))) (fun j b W' o h => by obtain ⟨g, h1, h2, h3, h4, h5⟩ := h; exact ⟨g, h1, h2, h3, HQP.out j W' o h4, h5.keep (Mod.putObj W' l2 o) h2⟩) ?assign ?iter ?body ?done
            case assign =>
              rintro R' O' j W' ⟨hj, hq⟩ hl' hd'
              have hll := (Array.getElem?_eq_some_iff.1 hl').1
              have HJ := Lib.hid (And.intro hj (And.intro hq (And.intro hl' hd')))
              obtain ⟨g, hg⟩ : ∃ y, W'.heap.size = y := ⟨_, rfl⟩
              have HGL : Hid (g ≠ l2) := Lib.hid (by omega)
              obtain ⟨ba, hba⟩ : ∃ ba, (outL L (v : Int)).getD j ⟨0, 0, 0, 0⟩ = ba := ⟨_, rfl⟩
              dsimp only [arcE]
              rw [hba]
              have HBA := Lib.hid hba
              have HG := Lib.hid hg
              clear hll hj hq hl' hd' hba hg
              gi_wp2_with fail
              have hma : Mod (fun _ => False) W' (W'.alloc (.cells #[.int .i64 ba.f, .int .i64 ba.t, .int .i64 ba.w, .int .i64 ba.m] 50)) := Mod.alloc _ _ _
              have hbn : Blk (W'.alloc (.cells #[.int .i64 ba.f, .int .i64 ba.t, .int .i64 ba.w, .int .i64 ba.m] 50)) W'.heap.size 50 (c4 ba) := Blk.new W' 50 (c4 ba)
              rw [HG.out] at hbn ⊢
              exact ⟨⟨g, ⟨rfl, rfl, rfl, rfl, rfl⟩, HGL.out, HJ.out.1, HQS.out j W' _ HJ.out.2.1 hma, by first | exact hbn | (rw [HBA.out]; exact hbn)⟩, hma.obj HJ.out.2.2.1 (fun e => e), hma.obj HJ.out.2.2.2 (fun e => e)⟩
            case start =>
              intro o o'
              have hma : Mod (fun _ => False) w9 (w9.alloc o) := Mod.alloc _ _ _
              have hmb : Mod (fun _ => False) (w9.alloc o) ((w9.alloc o).alloc o') := Mod.alloc _ _ _
              have hz1 : (w9.alloc o).heap.size = w9.heap.size + 1 := heap_size_alloc _ _
              have hz2 : ((w9.alloc o).alloc o').heap.size = w9.heap.size + 1 + 1 := by rw [heap_size_alloc, hz1]
              refine ⟨?_, hma.of2 hmb⟩
              rw [hQ, hZ]
              have hq8 : QIA J w W8 wB.heap.size (fun k => (((k ∈ Ds ∨ B' k) ∨ k = b7) ∨ k = b8) ∨ k = b9) n L (fn : Int) wo mo d p b7 b8 b9 v x2 (T ++ [v]) Ds bt tp (h ++ [((v : Int), x2, vi)]) B' l D R O (fun e b => b = v ∧ ∃ a ∈ (outL L (v : Int)).drop 0, a.t = (e : Int)) :=
                ⟨S, ps, us, G, HS8.out.1, ⟨HORD.out.1.said (fun e b hr hb => by
                  refine ⟨hb, ?_⟩
                  obtain ⟨a, h1, h2, h3, _⟩ := netW_inv hr
                  exact ⟨a, by rw [List.drop_zero]; exact mem_outL.2 ⟨h1, by rw [h3, hb]⟩, h2⟩), HVI.out.1, HVI.out.2⟩, HORD.out.2.1, HS8.out.2.1, HS8.out.2.2.1, HS8.out.2.2.2.1, HS8.out.2.2.2.2⟩
              exact ((hq8.later hJ HM9.out).guest hJ hma (g := D2) (by omega) (by omega)).guest hJ hmb (g := l2) (by omega) (by omega)
            case iter =>
              intro R' O' W1' hJ hl' hd' hY'
              rw [← HLN.out]
              exact each_in HNT.out (v : Int) l2 D2 Q HQM.out HQS.out R' O' W1' b1 b2 (HB12.out.1.keep hJ.2 (fun e => e)) (HB12.out.2.keep hJ.2 (fun e => e)) hJ.1 hl' hd' hY'
            case body =>
              rintro R' O' j ⟨tm, df⟩ W' ⟨g, ⟨hsz, t7, t8, t9, t11⟩, hgl, hj, hq, hbg⟩ hl' hd'
              simp only at hsz t7 t8 t9 t11
              obtain ⟨f, hf⟩ : ∃ f : Nat → Value, tm = #[f 0, f 1, f 2, f 3, f 4, f 5, f 6, f 7, f 8, f 9, f 10, f 11, f 12, f 13, f 14, f 15, f 16, f 17, f 18, f 19, f 20, f 21, f 22, f 23, f 24, f 25, f 26, f 27, f 28, f 29, f 30, f 31, f 32, f 33, f 34, f 35, f 36, f 37, f 38, f 39, f 40, f 41, f 42, f 43, f 44, f 45, f 46, f 47, f 48, f 49, f 50, f 51, f 52, f 53, f 54, f 55, f 56, f 57, f 58, f 59, f 60, f 61, f 62, f 63, f 64, f 65, f 66, f 67, f 68, f 69] := ⟨fun k => tm.getD k undef, tmps_form tm 70 hsz⟩
              subst hf
              have e7 : f 7 = .pointer (some ⟨b7, 0, none⟩) := Option.some.inj t7
              have e8 : f 8 = .pointer (some ⟨b8, 0, none⟩) := Option.some.inj t8
              have e9 : f 9 = .pointer (some ⟨b9, 0, none⟩) := Option.some.inj t9
              have e11 : f 11 = .pointer (some ⟨g, 0, none⟩) := Option.some.inj t11
              clear hsz t7 t8 t9 t11
              rw [e7, e8, e9, e11]
              clear e7 e8 e9 e11
              generalize f 0 = u0
              generalize f 1 = u1
              generalize f 2 = u2
              generalize f 3 = u3
              generalize f 4 = u4
              generalize f 5 = u5
              generalize f 6 = u6
              generalize f 10 = u10
              generalize f 12 = u12
              generalize f 13 = u13
              generalize f 14 = u14
              generalize f 15 = u15
              generalize f 16 = u16
              generalize f 17 = u17
              generalize f 18 = u18
              generalize f 19 = u19
              generalize f 20 = u20
              generalize f 21 = u21
              generalize f 22 = u22
              generalize f 23 = u23
              generalize f 24 = u24
              generalize f 25 = u25
              generalize f 26 = u26
              generalize f 27 = u27
              generalize f 28 = u28
              generalize f 29 = u29
              generalize f 30 = u30
              generalize f 31 = u31
              generalize f 32 = u32
              generalize f 33 = u33
              generalize f 34 = u34
              generalize f 35 = u35
              generalize f 36 = u36
              generalize f 37 = u37
              generalize f 38 = u38
              generalize f 39 = u39
              generalize f 40 = u40
              generalize f 41 = u41
              generalize f 42 = u42
              generalize f 43 = u43
              generalize f 44 = u44
              generalize f 45 = u45
              generalize f 46 = u46
              generalize f 47 = u47
              generalize f 48 = u48
              generalize f 49 = u49
              generalize f 50 = u50
              generalize f 51 = u51
              generalize f 52 = u52
              generalize f 53 = u53
              generalize f 54 = u54
              generalize f 55 = u55
              generalize f 56 = u56
              generalize f 57 = u57
              generalize f 58 = u58
              generalize f 59 = u59
              generalize f 60 = u60
              generalize f 61 = u61
              generalize f 62 = u62
              generalize f 63 = u63
              generalize f 64 = u64
              generalize f 65 = u65
              generalize f 66 = u66
              generalize f 67 = u67
              generalize f 68 = u68
              generalize f 69 = u69
              clear f
              rw [hQ] at hq
              have hdrop : (outL L (v : Int)).drop j = (outL L (v : Int)).getD j ⟨0, 0, 0, 0⟩ :: (outL L (v : Int)).drop (j + 1) := by
                rw [List.drop_eq_getElem_cons hj]
                simp [List.getD, hj]
              have hmem : (outL L (v : Int)).getD j ⟨0, 0, 0, 0⟩ ∈ outL L (v : Int) := by
                have : (outL L (v : Int)).getD j ⟨0, 0, 0, 0⟩ = (outL L (v : Int))[j] := by simp [List.getD, hj]
                rw [this]; exact List.getElem_mem hj
              obtain ⟨ba, hba⟩ : ∃ ba, (outL L (v : Int)).getD j ⟨0, 0, 0, 0⟩ = ba := ⟨_, rfl⟩
              rw [hba] at hdrop hmem hbg
              obtain ⟨hmL, hmf⟩ := mem_outL.1 hmem
              have hbw := HWT.out ba hmL
              have hbm := HNT.out.ok.may ba hmL
              unfold mayA at hbm
              have hsum : IntKind.i64.wrap (x2 + ba.w) = x2 + ba.w := IntWalk.i64_in _ (by have := HKT.out; omega)
              have hreach := qi_reachA hJ hq (fun k hk => by rw [hZ]; rcases hk with rfl | rfl | rfl | hk | hk; exact .inl (.inl (.inl (.inl (.inr rfl)))); exact .inl (.inl (.inl (.inr rfl))); exact .inl (.inl (.inr rfl)); exact .inl (.inl (.inl (.inl (.inl (.inl hk))))); exact .inl (.inl (.inl (.inl (.inl (.inr hk)))))) HNT.out.ok h512 HWT.out HF.out (by simp) HXE.out hmL hmf (pend' := fun e b => b = v ∧ ∃ a ∈ (outL L (v : Int)).drop (j + 1), a.t = (e : Int)) (fun e b hr hpe => by
                obtain ⟨h1, a, h2, h3⟩ := hpe
                rw [hdrop] at h2
                rcases List.mem_cons.1 h2 with rfl | h2
                · exact .inr ⟨h3.symm, h1⟩
                · exact .inl ⟨h1, a, h2, h3⟩)
              obtain ⟨_, _, _, _, _, _, _, k7, k8, k9, _⟩ := hq
              have q7 := k7.cell 0 rfl
              have q8 := k8.cell 0 rfl
              have q9 := k9.cell 0 rfl
              have g1 := hbg.cell 1 rfl
              have g2 := hbg.cell 2 rfl
              obtain ⟨bt', hbt'⟩ : ∃ x, ba.t = x := ⟨_, rfl⟩
              obtain ⟨bw', hbw'⟩ : ∃ x, ba.w = x := ⟨_, rfl⟩
              rw [hbt'] at g1 hreach
              rw [hbw'] at g2 hreach hsum
              have HRE := Lib.hid hreach
              have HLD2 := Lib.hid (And.intro hl' hd')
              have hgz := Lib.hid hgl
              have HZQ := Lib.hid (And.intro hZ hQ)
              clear hdrop hmem hba hmL hmf hbw hbm hreach k7 k8 k9 hbg hl' hd' hbt' hbw' hgl hj hZ hQ hD2 hl2
              gi_wp2_with fail
              refine ⟨trivial, rfl, (CallsIn.inRound _ (callsIn_wide.2 HRE.out)).mono ?_⟩
              rintro e W3 ⟨rfl, hq3, hm3⟩
              have hl3 := hm3.obj HLD2.out.1 (fun e => e (by rw [HZQ.out.1]; exact .inr rfl))
              have hd3 := hm3.obj HLD2.out.2 (fun e => e (by rw [HZQ.out.1]; exact .inl (.inr rfl)))
              have HQ3 := Lib.hid hq3
              have HLD3 := Lib.hid (And.intro hl3 hd3)
              clear hq3 hm3 hl3 hd3
              gi_wp2_with fail
              exact ⟨by rw [HZQ.out.2]; exact HQ3.out, HLD3.out.1, HLD3.out.2⟩
            case done =>
              intro W' hq hd'
              rw [hQ] at hq
              have HQE := Lib.hid hq
              have HDE := Lib.hid hd'
              have HZQ := Lib.hid hZ
              have hi1 : IntKind.i64.wrap ((i : Int) + 1) = ((i + 1 : Nat) : Int) := by rw [IntWalk.i64_in _ (by omega)]; omega
              clear hq hd' hQ hZ hD2 hl2
              go_wp2_with fail
              have hnil : (outL L (v : Int)).drop ln = [] := List.drop_eq_nil_of_le (by rw [HLN.out]; exact Nat.le_refl _)
              have hq2 := HQE.out.said (pend' := fun _ _ => False) (fun e b hr hp => by obtain ⟨_, a, ha, _⟩ := hp; rw [hnil] at ha; cases ha)
              obtain ⟨S', ps', us', G', h1, h2, h3, h4, h5, h6, h7⟩ := hq2
              have hlen : (T ++ [v]).length = i + 1 := by rw [List.length_append, HI.out]; rfl
              have hmk2 : MarksOk (D2 :: Ds) W' := h7.mks.cons HDE.out (fun e => by have h8 := HZS.out.1 D2 e; have h9 := HDL.out.1; omega)
              have hbk9 : ∀ k, B' k → k < w9.heap.size := HZB.out
              have hds2 : ∀ E ∈ D2 :: Ds, wB.heap.size ≤ E := fun E hE => (List.mem_cons.1 hE).elim (fun e => by have h8 := HZS.out.2.2; have h9 := HDL.out.1; omega) (fun e => h7.ds E e)
              have hs2 := h1.less (Z' := fun k => (k ∈ D2 :: Ds ∨ B' k) ∨ k = b7) (fun k hk => by rw [HZQ.out]; rcases hk with (hk | hk) | hk; exact (List.mem_cons.1 hk).elim (fun e => .inl (.inr e)) (fun e => .inl (.inl (.inl (.inl (.inl (.inl e)))))); exact .inl (.inl (.inl (.inl (.inl (.inr hk))))); exact .inl (.inl (.inl (.inl (.inr hk)))))
              have hbs2 : BsA J w W' wB.heap.size (D2 :: Ds) l D R O bt tp b7 (h ++ [((v : Int), x2, vi)]) B' := ⟨h7.md, h7.hl, h7.hD, hmk2, h7.lt, hds2, h7.bx, h7.bl, h7.j, fun k hk => ⟨(h7.b k hk).1, fun e => (List.mem_cons.1 e).elim (fun e => by have := hbk9 k hk; have h9 := HDL.out.1; omega) (fun e => (h7.b k hk).2.1 e), (h7.b k hk).2.2⟩⟩
              have hpw2 : (T ++ [v]).Pairwise (ahead d) := List.pairwise_append.2 ⟨HST.out.pw, List.pairwise_singleton _ _, fun a ha b hb => by rw [List.mem_singleton] at hb; subst hb; exact HORD.out.2.2 a ha⟩
              refine ⟨⟨T ++ [v], S', ps', us', G', B', h ++ [((v : Int), x2, vi)], D2 :: Ds, rfl, rfl, rfl, rfl, rfl, rfl, rfl, rfl, rfl, by rw [hlen]; exact rfl, rfl, ⟨hs2, h4, h2.1, h3, h2.2.1, hpw2, by have := of_decide_eq_true z0; omega, h2.2.2, hbs2, HST.out.b7⟩⟩, ?_⟩
              show n + 1 - ((i : Int) + 1).toNat < n + 1 - ((i : Int)).toNat
              omega
end Go.Proofs.YtjjedebjbgpimaaGreat
