/- detour: two sides together. -/
import Derived.Test.YtbjdjafkpldbnaaKSd
import Derived.Test.YtbjdjafkpldbnaaBtw
import Derived.BigQuiet
namespace Go.Proofs.Ytbjdjafkpldbnaa
open Go.RowKit Mile
set_option maxRecDepth 100000
theorem SideQ.ptr {X : Web} {d : List Int} {t : Nat} {a : Option Addr} {n c : Nat} {g : Nat → Nat → Value} {w : World} {e : Ending} {w' : World} (h : SideQ X d t a n c g w e w') : ∃ ps, e = .returned (.pointer (some ⟨ps, 0, none⟩)) := by
  obtain ⟨_, ps, _, _, _, _, _, _, h, _⟩ := h; exact ⟨ps, h⟩
theorem SideQ.mod {X : Web} {d : List Int} {t : Nat} {a : Option Addr} {n c : Nat} {g : Nat → Nat → Value} {w : World} {e : Ending} {w' : World} (h : SideQ X d t a n c g w e w') : Mod (fun _ => False) w w' := by
  obtain ⟨_, ps, _, _, _, _, _, _, h, _, _, _, _, _, hm, _⟩ := h; exact hm
theorem SideQ.later {X : Web} {d : List Int} {t : Nat} {a : Option Addr} {n c : Nat} {g : Nat → Nat → Value} {w : World} {e : Ending} {w' w2 : World} (h : SideQ X d t a n c g w e w') (hm : Mod (fun _ => False) w' w2) : SideQ X d t a n c g w e w2 := by
  obtain ⟨B0, ps, rb, ds, S, F, bt, bc, he, h1, h2, h3, h4, h5, h6, h7⟩ := h
  exact ⟨B0, ps, rb, ds, S, F, bt, bc, he, h1.later hm, h2, h3, h4.keep hm (fun _ e => e.elim) (fun e => e) (fun e => e), h5, h6.of2 hm, h7⟩
/-- Where the two sides stand. -/
structure Pl where
  pA : Nat
  rA : Nat
  tA : Nat
  bA : Nat
  oA : Nat
  pB : Nat
  rB : Nat
  tB : Nat
  bB : Nat
  oB : Nat
structure Two (XA XB : Web) (t : Nat) (a : Option Addr) (n c : Nat) (w : World) (P : Pl) (dsA : List Int) (SA : List It) (cA : Int) (FA : Nat → Prop) (dsB : List Int) (SB : List It) (cB : Int) (FB : Nat → Prop) (W : World) : Prop where
  sa : SdO W P.oA P.pA P.rA XA.m dsA SA cA (gOn P.tA P.bA) FA
  sb : SdO W P.oB P.pB P.rB XB.m dsB SB cB (gBack P.tB P.bB) FB
  ea : Bx w t a n c P.tA P.bA W
  eb : Bx w t a n c P.tB P.bB W
  na : ¬ sdF FA P.rA P.tA ∧ ¬ sdF FA P.rA P.bA
  nb : ¬ sdF FB P.rB P.tB ∧ ¬ sdF FB P.rB P.bB
  nab : ¬ sdF FA P.rA P.tB ∧ ¬ sdF FA P.rA P.bB
  nba : ¬ sdF FB P.rB P.tA ∧ ¬ sdF FB P.rB P.bA
  dj : ∀ k, sdF FA P.rA k → ¬ sdF FB P.rB k
  lo : w.heap.size ≤ P.oA ∧ w.heap.size ≤ P.oB
section
variable {XA XB : Web} {t : Nat} {a : Option Addr} {n c : Nat} {w : World} {P : Pl} {dsA : List Int} {SA : List It} {cA : Int} {FA : Nat → Prop} {dsB : List Int} {SB : List It} {cB : Int} {FB : Nat → Prop} {W W' : World}
theorem sdF.grown {F F' : Nat → Prop} {rb s k : Nat} (hg : ∀ k, F' k → F k ∨ s ≤ k) (hk : k < s) (h : ¬ sdF F rb k) : ¬ sdF F' rb k := fun e => e.elim (fun e => (hg k e).elim (fun e => h (.inl e)) (fun e => by omega)) (fun e => h (.inr e))
theorem Two.later (h : Two XA XB t a n c w P dsA SA cA FA dsB SB cB FB W) (hm : Mod (fun _ => False) W W') : Two XA XB t a n c w P dsA SA cA FA dsB SB cB FB W' :=
  ⟨h.sa.later hm, h.sb.later hm, h.ea.keep hm (fun _ e => e.elim) (fun e => e) (fun e => e), h.eb.keep hm (fun _ e => e.elim) (fun e => e) (fun e => e), h.na, h.nb, h.nab, h.nba, h.dj, h.lo⟩
theorem Two.goA (h : Two XA XB t a n c w P dsA SA cA FA dsB SB cB FB W) {ds : List Int} {S : List It} {c2 : Int} (hq : SdQ P.oA P.pA P.rA XA.m ds S c2 (gOn P.tA P.bA) FA W W') : ∃ F, Two XA XB t a n c w P ds S c2 F dsB SB cB FB W' := by
  obtain ⟨F, h1, h2, h3⟩ := hq
  have hl : ∀ k, sdF FA P.rA k → w.heap.size ≤ k := fun k e => e.elim (fun e => Nat.le_trans h.lo.1 (h.sa.lo.1 k e)) (fun e => by rw [e]; exact Nat.le_trans h.lo.1 h.sa.lo.2)
  refine ⟨F, h1, h.sb.keep h3 (fun k hk e => h.dj k e hk), h.ea.keep h3 hl h.na.1 h.na.2, h.eb.keep h3 hl h.nab.1 h.nab.2, ⟨sdF.grown h2 h.ea.bt.lt h.na.1, sdF.grown h2 h.ea.bc.lt h.na.2⟩, h.nb, ⟨sdF.grown h2 h.eb.bt.lt h.nab.1, sdF.grown h2 h.eb.bc.lt h.nab.2⟩, h.nba, fun k hk hb => ?_, h.lo⟩
  have hkl := h.sb.lt k hb
  exact sdF.grown h2 hkl (fun e => h.dj k e hb) hk
theorem Two.goB (h : Two XA XB t a n c w P dsA SA cA FA dsB SB cB FB W) {ds : List Int} {S : List It} {c2 : Int} (hq : SdQ P.oB P.pB P.rB XB.m ds S c2 (gBack P.tB P.bB) FB W W') : ∃ F, Two XA XB t a n c w P dsA SA cA FA ds S c2 F W' := by
  obtain ⟨F, h1, h2, h3⟩ := hq
  have hl : ∀ k, sdF FB P.rB k → w.heap.size ≤ k := fun k e => e.elim (fun e => Nat.le_trans h.lo.2 (h.sb.lo.1 k e)) (fun e => by rw [e]; exact Nat.le_trans h.lo.2 h.sb.lo.2)
  refine ⟨F, h.sa.keep h3 (fun k hk e => h.dj k hk e), h1, h.ea.keep h3 hl h.nba.1 h.nba.2, h.eb.keep h3 hl h.nb.1 h.nb.2, h.na, ⟨sdF.grown h2 h.eb.bt.lt h.nb.1, sdF.grown h2 h.eb.bc.lt h.nb.2⟩, h.nab, ⟨sdF.grown h2 h.ea.bt.lt h.nba.1, sdF.grown h2 h.ea.bc.lt h.nba.2⟩, fun k hk hb => ?_, h.lo⟩
  have hkl := h.sa.lt k hk
  exact sdF.grown h2 hkl (h.dj k hk) hb
end
theorem two_begin {XA XB : Web} {dA dB : List Int} {t : Nat} {a : Option Addr} {n c : Nat} {w w0 w9 wB w' : World} {va vb : Value} (h00 : Mod (fun _ => False) w w0) (hA : SideQ XA dA t a n c gOn w0 (.returned va) w9) (hM : Mod (fun _ => False) w9 wB) (hB : SideQ XB dB t a n c gBack wB (.returned vb) w') :
    ∃ P dsA SA FA dsB SB FB, va = .pointer (some ⟨P.pA, 0, none⟩) ∧ vb = .pointer (some ⟨P.pB, 0, none⟩) ∧ Two XA XB t a n c w P dsA SA 0 FA dsB SB 0 FB w' ∧ Sde XA dA [] dsA SA 0 (fun _ _ => False) ∧ Sde XB dB [] dsB SB 0 (fun _ _ => False) := by
  obtain ⟨oA, pA, rA, dsA, SA, FA, tA, bA, heA, a1, a2, a3, a4, a5, a6, a7⟩ := hA
  obtain ⟨oB, pB, rB, dsB, SB, FB, tB, bB, heB, b1, b2, b3, b4, b5, b6, b7⟩ := hB
  have hmm := hM.of2 b6
  have hs1 := hM.size
  have hs2 := a6.size
  have hs3 := h00.size
  have hlo : ∀ k, sdF FB rB k → wB.heap.size ≤ k := fun k e => e.elim (fun e => Nat.le_trans b5 (b1.lo.1 k e)) (fun e => by rw [e]; exact Nat.le_trans b5 b1.lo.2)
  have hal := a1.lt
  have n1 : ¬ sdF FA rA tB := fun e => by have := hal _ e; omega
  have n2 : ¬ sdF FA rA bB := fun e => by have := hal _ e; omega
  have n3 : ¬ sdF FB rB tA := fun e => by have := hlo _ e; have := a4.bt.lt; omega
  have n4 : ¬ sdF FB rB bA := fun e => by have := hlo _ e; have := a4.bc.lt; omega
  cases heA
  cases heB
  refine ⟨⟨pA, rA, tA, bA, oA, pB, rB, tB, bB, oB⟩, dsA, SA, FA, dsB, SB, FB, rfl, rfl, ⟨a1.later hmm, b1, ⟨h00.of2 (a4.m.of2 hmm), a4.bt.keep hmm (fun e => e), a4.bc.keep hmm (fun e => e)⟩, ⟨h00.of2 ((a6.of2 hM).of2 b4.m), b4.bt, b4.bc⟩, a2, b2,
    ⟨n1, n2⟩, ⟨n3, n4⟩, fun k hk hb => by have := hal k hk; have := hlo k hb; omega, by show w.heap.size ≤ oA; omega, by show w.heap.size ≤ oB; omega⟩, a3, b3⟩
/-- The least number of which a thing is true; 0, if there is none. -/
theorem leastN_ex {Q : Nat → Prop} (h : ∃ n, Q n) : ∃ n, Q n ∧ ∀ m, Q m → n ≤ m := by
  obtain ⟨n, hn⟩ := h
  induction n using Nat.strongRecOn with
  | ind n ih =>
    by_cases hm : ∃ m, m < n ∧ Q m
    · obtain ⟨m, h1, h2⟩ := hm; exact ih m h1 h2
    · exact ⟨n, hn, fun m h1 => Classical.byContradiction fun h2 => hm ⟨m, by omega, h1⟩⟩
open Classical in
noncomputable def leastN (Q : Nat → Prop) : Nat := if h : ∃ n, Q n then Classical.choose (leastN_ex h) else 0
theorem leastN_is {Q : Nat → Prop} (h : ∃ n, Q n) : Q (leastN Q) := by unfold leastN; rw [dif_pos h]; exact (Classical.choose_spec (leastN_ex h)).1
theorem leastN_le {Q : Nat → Prop} {m : Nat} (h : Q m) : leastN Q ≤ m := by unfold leastN; rw [dif_pos ⟨m, h⟩]; exact (Classical.choose_spec (leastN_ex ⟨m, h⟩)).2 m h
theorem bid_of (G : GD) (hm : May G) (k : Nat) (v : Int) (cl : List Bool) {dA dB : List Int} (ha : Fix (webFrom G hm (k : Int) cl) dA) (hb : Fix (webTo G hm v cl) dB) : Bid (webFrom G hm (k : Int) cl) (webTo G hm v cl) dA dB (fun e => (eAt G (e : Int)).2.2) :=
  ⟨ha, hb, rfl, fun e b h => ⟨h, rfl⟩, fun b e h => ⟨h, rfl⟩⟩
theorem fix_from (G : GD) (hm : May G) (k : Nat) (cl : List Bool) : ∃ d, Fix (webFrom G hm (k : Int) cl) d ∧ ∀ e, dAt d e ≤ 33553920 := by
  have hs : ∀ e, (webFrom G hm (k : Int) cl).st e ↔ decide ((e : Int) = (k : Int)) = true := fun e => by rw [decide_eq_true_iff]; exact Iff.rfl
  have h512 : (webFrom G hm (k : Int) cl).m ≤ 512 := hm.1.2.1
  obtain ⟨d, hd⟩ := Fix.ex _ h512 _ hs
  exact ⟨d, hd, hd.top' h512 _ hs⟩
theorem fix_to (G : GD) (hm : May G) (v : Int) (cl : List Bool) : ∃ d, Fix (webTo G hm v cl) d ∧ ∀ e, dAt d e ≤ 33553920 := by
  have hs : ∀ e, (webTo G hm v cl).st e ↔ decide ((eAt G (e : Int)).2.1 = v) = true := fun e => by rw [decide_eq_true_iff]; exact Iff.rfl
  have h512 : (webTo G hm v cl).m ≤ 512 := hm.1.2.1
  obtain ⟨d, hd⟩ := Fix.ex _ h512 _ hs
  exact ⟨d, hd, hd.top' h512 _ hs⟩
theorem edge_to (G : GD) (hm : May G) (e : Nat) (he : e < G.E.length) : 0 ≤ (eAt G (e : Int)).2.1 ∧ (eAt G (e : Int)).2.1 < (G.N.length : Int) := by
  rw [eAt_eq G e he]
  have := hm.2.2.1 _ (List.getElem_mem he)
  unfold EdgeOk at this
  omega
theorem to_none (G : GD) (hm : May G) (v : Int) (hv : ¬ (0 ≤ v ∧ v < (G.N.length : Int))) : idx (G.E.map (·.2.1)) v = [] := by
  unfold idx
  rw [List.map_eq_nil_iff, List.filter_eq_nil_iff]
  intro e he
  have he2 : e < G.E.length := by simpa using he
  rw [eAt_map2 G e he2]
  have := edge_to G hm e he2
  simp only [decide_eq_true_eq, beq_iff_eq]
  intro h
  exact hv (by omega)
theorem in_all (p B C : Nat) (G : GD) (hm : May G) (w : World) (h : GO w p B C G) (v : Int) :
    Calls Try.prog 26 #[.pointer (some ⟨p, 0, none⟩), .int .i64 v] w fun e w' => ∃ ai ci, e = .returned (.slice ai (idx (G.E.map (·.2.1)) v).length ci) ∧ Rd w' 1 (.slice ai (idx (G.E.map (·.2.1)) v).length ci) (idx (G.E.map (·.2.1)) v).length ((idx (G.E.map (·.2.1)) v).map (Value.int .i64)) ∧ Mod (fun _ => False) w w' := by
  refine (in_any p B C w G h v).mono ?_
  rintro e w' ⟨a, c, he, ho, hM⟩
  by_cases hv : 0 ≤ v ∧ v < (G.N.length : Int)
  · rw [if_pos hv] at he ho
    rw [if_pos hv] at ho
    exact ⟨a, c, he, Rd.ofOwn ho, hM⟩
  · rw [if_neg hv] at he ho
    rw [if_neg hv] at ho
    rw [to_none G hm v hv]
    exact ⟨a, c, he, Rd.ofOwn ho, hM⟩
/-- Of no node there is no way. -/
theorem to_far (G : GD) (hm : May G) (v : Int) (cl : List Bool) (hv : ¬ (0 ≤ v ∧ v < (G.N.length : Int))) {d : List Int} (hf : Fix (webTo G hm v cl) d) : ∀ (n : Nat) (e : Nat), dAt d e ≤ n → ¬ 0 ≤ dAt d e := by
  intro n
  induction n using Nat.strongRecOn with
  | ind n ih =>
    intro e hn h0
    rcases hf.why e h0 with ⟨h1, h2⟩ | ⟨b, h1, h2, h3⟩
    · have he : e < G.E.length := by have := dAt_in h0; rw [hf.len] at this; exact this
      have h4 : (eAt G (e : Int)).2.1 = v := h1
      have := edge_to G hm e he
      exact hv (by omega)
    · have hw := (webTo G hm v cl).one e b h1
      exact ih (n - 1) (by omega) b (by omega) h2
theorem Sde.row {X : Web} {d : List Int} {T : List Nat} {ds : List Int} {S : List It} {c : Int} {pend : Nat → Nat → Prop} (h : Sde X d T ds S c pend) (htop : ∀ e, dAt d e ≤ 33553920) : ∀ e, dAt ds e ≤ 33553920 + 65535 ∧ -1 ≤ dAt ds e := fun e => by
  by_cases he : dAt ds e = -1
  · omega
  · have ht := htop e
    rcases h.sound he with h1 | ⟨h1, h2⟩
    · omega
    · have := (h.o.t e h1).1; omega
theorem Sde.cap {X : Web} {d : List Int} {T : List Nat} {ds : List Int} {S : List It} {c : Int} {pend : Nat → Nat → Prop} (h : Sde X d T ds S c pend) (htop : ∀ e, dAt d e ≤ 33553920) : 0 ≤ c ∧ c ≤ 33553920 := by
  refine ⟨h.c0, ?_⟩
  rcases h.cl with h1 | ⟨t, _, h1⟩
  · omega
  · have := htop t; omega
theorem Ord.size {X : Web} {d : List Int} {mo : Int} {T : List Nat} {S : List It} {pend : Nat → Nat → Prop} (h : Ord X d mo T S pend) (hf : Fix X d) : T.length ≤ X.m := by
  have h1 := nodupN_le T (List.range X.m) h.nod (fun t ht => List.mem_range.2 (by have := dAt_in (h.t t ht).1; rw [hf.len] at this; exact this))
  simpa using h1
theorem stepV_in {w : Int} {ds : List Int} {x : Nat} (h0 : 0 ≤ w) (h1 : w ≤ 33553920) (hr : dAt ds x ≤ 33553920 + 65535 ∧ -1 ≤ dAt ds x) : 0 ≤ stepV w ds x ∧ stepV w ds x ≤ 9223372036854775807 := by
  unfold stepV
  split <;> omega
/-- What the two searches keep, so many rounds before no edge is left. -/
def DInv (XA XB : Web) (dA dB : List Int) (Wf : Nat → Int) (k t : Nat) (a : Option Addr) (n c : Nat) (w : World) (P : Pl) (lv : Value) (W : World) (q : Nat) : Prop :=
  ∃ (TA TB : List Nat) (dsA : List Int) (SA : List It) (cA : Int) (FA : Nat → Prop) (dsB : List Int) (SB : List It) (cB : Int) (FB : Nat → Prop) (l : Int), lv = .int .i64 l ∧ (0 ≤ l ∧ l ≤ 9223372036854775807) ∧
    Two XA XB t a n c w P dsA SA cA FA dsB SB cB FB W ∧ Sde XA dA TA dsA SA cA (fun _ _ => False) ∧ Sde XB dB TB dsB SB cB (fun _ _ => False) ∧ Mtg XA XB dA dB Wf k TA TB l ∧ TA.length + q = XA.m
/-- How far it is, behind them. -/
theorem two_done (G : GD) (hm : May G) (k : Nat) (hk : k < G.E.length) (v : Int) (cl : List Bool) {dA dB : List Int} (ha : Fix (webFrom G hm (k : Int) cl) dA) (hb : Fix (webTo G hm v cl) dB) (hta : ∀ e, dAt dA e ≤ 33553920) (htb : ∀ e, dAt dB e ≤ 33553920)
    {TA TB : List Nat} {dsA dsB : List Int} {SA SB : List It} {cA cB l : Int} (hA : Sde (webFrom G hm (k : Int) cl) dA TA dsA SA cA (fun _ _ => False)) (hB : Sde (webTo G hm v cl) dB TB dsB SB cB (fun _ _ => False)) (m : Mtg (webFrom G hm (k : Int) cl) (webTo G hm v cl) dA dB (fun e => (eAt G (e : Int)).2.2) k TA TB l)
    (hend : SA = [] ∨ SB = [] ∨ l ≤ cA + cB) : ∃ x, Btw G hm v cl (k : Int) x ∧ (l = 9223372036854775807 → x = -1) ∧ (l ≤ 9223372036854775807 → l ≠ 9223372036854775807 → x = l ∧ x ≠ -1) := by
  have hst : ∀ x, (webFrom G hm (k : Int) cl).st x ↔ x = k := fun x => by show (x : Int) = (k : Int) ↔ x = k; omega
  have hbid := bid_of G hm k v cl ha hb
  have hd : 0 ≤ dAt dB k → l = dAt dB k := fun h0 => Mtg.done hbid hst hk m hA hB hend h0 hta htb
  have hlow := hb.low k
  have htk := htb k
  refine ⟨dAt dB k, ?_, fun hl => ?_, fun hle hl => ?_⟩
  · by_cases hv : 0 ≤ v ∧ v < (G.N.length : Int)
    · exact .inl ⟨⟨hv, by omega, by omega⟩, dB, hb, by simp⟩
    · refine .inr ⟨fun e => hv e.1, ?_⟩
      have := to_far G hm v cl hv hb (dAt dB k).toNat k (by omega)
      omega
  · by_cases h0 : 0 ≤ dAt dB k
    · have := hd h0; omega
    · omega
  · have h0 := m.hi (by omega)
    have := hd h0
    omega
end Go.Proofs.Ytbjdjafkpldbnaa
namespace Go.Proofs.Ytbjdjafkpldbnaa
open Go.RowKit Mile
set_option maxRecDepth 100000
attribute [local go_sem] Oper.semAt_some
/-- The two sides behind the statement that makes them. -/
def Begun (XA XB : Web) (dA dB : List Int) (t : Nat) (a : Option Addr) (n c : Nat) (w : World) (av bv : Value) (W : World) : Prop :=
  ∃ P dsA SA FA dsB SB FB, av = .pointer (some ⟨Pl.pA P, 0, none⟩) ∧ bv = .pointer (some ⟨Pl.pB P, 0, none⟩) ∧ Two XA XB t a n c w P dsA SA 0 FA dsB SB 0 FB W ∧ Sde XA dA [] dsA SA 0 (fun _ _ => False) ∧ Sde XB dB [] dsB SB 0 (fun _ _ => False)
set_option maxHeartbeats 16000000 in
theorem ddist19_any (t p B C : Nat) (G : GD) (hm : May G) (w : World) (h : TO w t p B C G) (ev v : Int) (a : Option Addr) (n c : Nat) (cl : List Bool) (hn : cl.length = n) (hr : Rd w 1 (.slice a n c) n (cl.map Value.bool)) :
    Calls Try.prog 11 #[.pointer (some ⟨t, 0, none⟩), .int .i64 ev, .int .i64 v, .slice a n c] w (BtwP G hm v cl ev w) := by
  have hes : G.E.length ≤ 512 := hm.1.2.1
  have qt := h.blk.cell 0 rfl
  by_cases hev : 0 ≤ ev ∧ ev < (G.E.length : Int)
  case neg =>
    have HED := Lib.hid (edge_out p B C G w h.go ev hev)
    clear h hr
    go_enter Try.func11, Try.ntmps11
    go_wp2_with fail
    refine HED.out.mono ?_
    rintro e w1 ⟨rfl, hm1⟩
    go_wp2_with fail
    go_ret2
    exact ⟨-1, .inr ⟨fun e => hev e.2, rfl⟩, rfl, hm1.thenAlloc _⟩
  case pos =>
    obtain ⟨k, rfl⟩ := Int.eq_ofNat_of_zero_le hev.1
    have hk : k < G.E.length := by omega
    clear hev
    obtain ⟨nx, hnx⟩ : ∃ x, (eAt G (k : Int)).1 = x := ⟨_, rfl⟩
    obtain ⟨ny, hny⟩ : ∃ x, (eAt G (k : Int)).2.1 = x := ⟨_, rfl⟩
    obtain ⟨nz, hnz⟩ : ∃ x, (eAt G (k : Int)).2.2 = x := ⟨_, rfl⟩
    have HED := Lib.hid (edge_ok p B C G w h.go k hk nx ny nz hnx hny hnz)
    obtain ⟨dA, hfA, htA⟩ := fix_from G hm k cl
    obtain ⟨dB, hfB, htB⟩ := fix_to G hm v cl
    have HTO := Lib.hid h
    have HR := Lib.hid hr
    have HN := Lib.hid hn
    have HFA := Lib.hid (And.intro hfA htA)
    have HFB := Lib.hid (And.intro hfB htB)
    have HMAY := Lib.hid hm
    clear h hr hn hfA htA hfB htB hnx hny hnz
    go_enter Try.func11, Try.ntmps11
    go_wp2_with fail
    refine HED.out.mono ?_
    rintro e w1 ⟨rfl, hm1⟩
    obtain ⟨b10, hb10⟩ : ∃ b, w1.heap.size = b := ⟨_, rfl⟩
    obtain ⟨w2, hw2⟩ : ∃ x, w1.alloc (.cells #[.int .i64 nx, .int .i64 ny, .int .i64 nz] 43) = x := ⟨_, rfl⟩
    have hm2 : Mod (fun _ => False) w w2 := by rw [← hw2]; exact hm1.thenAlloc _
    have HM2 := Lib.hid hm2
    have HTO2 := Lib.hid (HTO.out.keep hm2)
    have HR2 := Lib.hid (HR.out.keep hm2 (fun _ _ e => e))
    replace qt := HTO2.out.blk.cell 0 rfl
    clear hm1 hm2 HED
    go_upto_region 6 with fail
    (try rw [hw2])
    clear hw2 hb10
    go_cut [12, 13] from 28 to 40 (fun av bv wx => Begun (webFrom G hm (k : Int) cl) (webTo G hm v cl) dA dB t a n c w av bv wx)
    case first =>
      go_region_with (first
        | (go_at_call 24
           refine (onwards_any G HMAY.out _ t p B C (HTO2.out.keep (by first | exact Mod.refl _ _ | exact Mod.drew _ _)) k hk a n c cl (HR2.out.keep (by first | exact Mod.refl _ _ | exact Mod.drew _ _) (fun _ _ e => e)) dA HFA.out.1).mono ?_
           rintro e w9 hq9
           obtain ⟨pA, rfl⟩ := hq9.ptr
           have hm9 : Mod (fun _ => False) w2 w9 := Mod.of2 (by first | exact Mod.refl _ _ | exact Mod.drew _ _) hq9.mod
           have HQ9 := Lib.hid hq9
           have HM9 := Lib.hid hm9
           have qt9 := (HTO2.out.keep hm9).blk.cell 0 rfl
           clear hq9 hm9)
        | (go_at_call 26
           refine (in_all p B C G HMAY.out _ (HTO2.out.keep (HM9.out.of2 (by first | exact Mod.refl _ _ | exact Mod.drew _ _))).go v).mono ?_
           rintro e w10 ⟨ai, ci, rfl, hri, hmi⟩
           have hm10 : Mod (fun _ => False) w9 w10 := Mod.of2 (by first | exact Mod.refl _ _ | exact Mod.drew _ _) hmi
           have HM10 := Lib.hid hm10
           have HRI := Lib.hid hri
           clear hri hmi hm10)
        | (go_at_call 25
           refine (backwards_any G HMAY.out _ t p B C (HTO2.out.keep ((HM9.out.of2 HM10.out).of2 (by first | exact Mod.refl _ _ | exact Mod.drew _ _))) v ai ci a n c cl (HR2.out.keep ((HM9.out.of2 HM10.out).of2 (by first | exact Mod.refl _ _ | exact Mod.drew _ _)) (fun _ _ e => e)) dB HFB.out.1 (HRI.out.keep (by first | exact Mod.refl _ _ | exact Mod.drew _ _) (fun _ _ e => e))).mono ?_
           rintro e w11 hq11
           obtain ⟨pB, rfl⟩ := hq11.ptr
           have HQ11 := Lib.hid hq11
           clear hq11))
      all_goals
        (try go_wp2_with fail)
        go_meet
        refine two_begin ?_ HQ9.out ?_ HQ11.out
        · exact HM2.out.of2 (by first | exact Mod.refl _ _ | exact Mod.drew _ _)
        · exact HM10.out.of2 (by first | exact Mod.refl _ _ | exact Mod.drew _ _)
    case rest =>
      obtain ⟨⟨pA, rA, tA, bA, oA, pB, rB, tB, bB, oB⟩, dsA0, SA0, FA0, dsB0, SB0, FB0, rfl, rfl, hTwo, hA0, hB0⟩ := hcut
      obtain ⟨wC, hwC⟩ : ∃ x : World, x = wc := ⟨_, rfl⟩
      subst hwC
      dsimp only
      have hst : ∀ x, (webFrom G hm (k : Int) cl).st x ↔ x = k := fun x => by show (x : Int) = (k : Int) ↔ x = k; omega
      have HST := Lib.hid hst
      have hstart : DInv (webFrom G hm (k : Int) cl) (webTo G hm v cl) dA dB (fun e => (eAt G (e : Int)).2.2) k t a n c w (Pl.mk pA rA tA bA oA pB rB tB bB oB) (.int .i64 9223372036854775807) wC G.E.length :=
        ⟨[], [], dsA0, SA0, 0, FA0, dsB0, SB0, 0, FB0, _, rfl, by omega, hTwo, hA0, hB0, Mtg.begin k HFB.out.2, by simp; rfl⟩
      have HSTART := Lib.hid hstart
      have HBID := Lib.hid (bid_of G hm k v cl HFA.out.1 HFB.out.1)
      have hGA := onw_any G hm (k : Int) cl w t p B C a n c HTO.out HN.out HR.out dA HFA.out.1 HFA.out.2 oA pA rA (gOn tA bA) hTwo.lo.1 tA bA
      have hGB := bkw_any G hm v cl w t p B C a n c HTO.out HN.out HR.out dB HFB.out.1 HFB.out.2 oB pB rB (gBack tB bB) hTwo.lo.2 tB bB
      have HGA := Lib.hid hGA
      have HGB := Lib.hid hGB
      have HLO := Lib.hid hTwo.lo
      clear hTwo hA0 hB0 hstart hGA hGB qt hst
      go_wp2_with fail
      go_loopw [14] (fun lv wr => ∃ q, DInv (webFrom G hm (k : Int) cl) (webTo G hm v cl) dA dB (fun e => (eAt G (e : Int)).2.2) k t a n c w (Pl.mk pA rA tA bA oA pB rB tB bB oB) lv wr q) (fun lv wr => leastN (DInv (webFrom G hm (k : Int) cl) (webTo G hm v cl) dA dB (fun e => (eAt G (e : Int)).2.2) k t a n c w (Pl.mk pA rA tA bA oA pB rB tB bB oB) lv wr))
      case atStart => exact ⟨_, HSTART.out⟩
      case round =>
        have hleast := leastN_is hrel
        clear hrel
        generalize hq0 : leastN (DInv (webFrom G hm (k : Int) cl) (webTo G hm v cl) dA dB (fun e => (eAt G (e : Int)).2.2) k t a n c w (Pl.mk pA rA tA bA oA pB rB tB bB oB) _ _) = q0 at hleast
        have HQ0 := Lib.hid hq0
        clear hq0
        obtain ⟨TA, TB, dsA, SA, cA, FA, dsB, SB, cB, FB, l, rfl, hl, hTwo, hA, hB, hM, hT⟩ := hleast
        obtain ⟨wo, hwo⟩ : ∃ x : World, x = wr := ⟨_, rfl⟩
        subst hwo
        obtain ⟨la, hla⟩ : ∃ q, SA.length = q := ⟨_, rfl⟩
        obtain ⟨lb, hlb⟩ : ∃ q, SB.length = q := ⟨_, rfl⟩
        have hqA : ∀ j, Calls Try.prog 27 #[.pointer (some ⟨pA, 1, none⟩)] (wo.drewN j) fun e w' => e = .returned (.int .i64 (la : Int)) ∧ ∃ m, w' = wo.drewN m := fun j => (SH.len_any pA _ SA FA (hTwo.sa.later (Mod.drewN _ _ _)).hp).mono (fun e w' h => ⟨by rw [h.1, hla], j, h.2.symm⟩)
        have hqB : ∀ j, Calls Try.prog 27 #[.pointer (some ⟨pB, 1, none⟩)] (wo.drewN j) fun e w' => e = .returned (.int .i64 (lb : Int)) ∧ ∃ m, w' = wo.drewN m := fun j => (SH.len_any pB _ SB FB (hTwo.sb.later (Mod.drewN _ _ _)).hp).mono (fun e w' h => ⟨by rw [h.1, hlb], j, h.2.symm⟩)
        obtain ⟨v9, mb9, hbA⟩ := hTwo.sa.blk
        obtain ⟨v8, mb8, hbB⟩ := hTwo.sb.blk
        have c3A : wo.cell? ⟨pA, 3, none⟩ = some (.int .i64 cA) := hbA.cell 3 rfl
        have c3B : wo.cell? ⟨pB, 3, none⟩ = some (.int .i64 cB) := hbB.cell 3 rfl
        have hcA := hA.cap HFA.out.2
        have hcB := hB.cap HFB.out.2
        have hlaS : la ≤ 1000 := by rw [← hla]; exact Nat.le_trans (hA.o.few hTwo.sa.ids.2) (by show G.E.length ≤ 1000; omega)
        have hlbS : lb ≤ 1000 := by rw [← hlb]; exact Nat.le_trans (hB.o.few hTwo.sb.ids.2) (by show G.E.length ≤ 1000; omega)
        have HTwo := Lib.hid hTwo
        have HAB := Lib.hid (And.intro hA (And.intro hB (And.intro hM hT)))
        have HLA := Lib.hid (And.intro hla hlb)
        have HQA := Lib.hid hqA
        have HQB := Lib.hid hqB
        clear hTwo hA hB hM hT hbA hbB hla hlb hqA hqB
        have hdone : ∀ wx, Mod (fun _ => False) wo wx → (SA = [] ∨ SB = [] ∨ l ≤ cA + cB) → ∃ x, Btw G hm v cl (k : Int) x ∧ (l = 9223372036854775807 → x = -1) ∧ (l ≠ 9223372036854775807 → x = l ∧ x ≠ -1) ∧ Mod (fun _ => False) w wx := fun wx hmx he => by
          obtain ⟨x, h1, h2, h3⟩ := two_done G hm k hk v cl HFA.out.1 HFB.out.1 HFA.out.2 HFB.out.2 HAB.out.1 HAB.out.2.1 HAB.out.2.2.1 he
          exact ⟨x, h1, h2, h3 hl.2, HTwo.out.ea.m.of2 hmx⟩
        have HDONE := Lib.hid hdone
        clear hdone
        by_cases hla0 : la = 0
        case pos =>
          have zA : decide ((0 : Int) < (la : Int)) = false := by simp; omega
          have zAn : decide (0 < la) = false := by simp; omega
          clear HGA HGB HST HBID HTO HR HN HTO2 HR2
          go_upto_region 8 with fail
          go_quiet ((go_at_call 27; first | with_reducible exact HQA.out _ | with_reducible exact HQB.out _))
          obtain ⟨x, hx1, hx2, hx3, hx4⟩ := HDONE.out (World.drewN wo nq) (Mod.drewN _ _ _) (.inl (List.length_eq_zero_iff.1 (by rw [HLA.out.1]; exact hla0)))
          have HX := Lib.hid (And.intro hx1 hx4)
          clear hx1 hx4
          by_cases hmx : l = 9223372036854775807
          · have hx5 := hx2 hmx
            subst hmx
            subst hx5
            clear hx2 hx3
            go_wp2_with fail
            go_ret2
            exact ⟨-1, HX.out.1, rfl, HX.out.2⟩
          · obtain ⟨hx5, hx6⟩ := hx3 hmx
            subst hx5
            have zmx : (x == 9223372036854775807) = false := beq_eq_false_iff_ne.2 hmx
            clear hx2 hx3
            go_wp2_with fail
            go_ret2
            refine ⟨x, HX.out.1, ?_, HX.out.2⟩
            rw [if_neg hx6, decide_eq_true hx6]
            rfl
        case neg =>
          have zA : decide ((0 : Int) < (la : Int)) = true := by simp; omega
          have zAn : decide (0 < la) = true := by simp; omega
          by_cases hlb0 : lb = 0
          case pos =>
            have zB : decide ((0 : Int) < (lb : Int)) = false := by simp; omega
            have zBn : decide (0 < lb) = false := by simp; omega
            clear HGA HGB HST HBID HTO HR HN HTO2 HR2
            go_upto_region 8 with fail
            go_quiet ((go_at_call 27; first | with_reducible exact HQA.out _ | with_reducible exact HQB.out _))
            obtain ⟨x, hx1, hx2, hx3, hx4⟩ := HDONE.out (World.drewN wo nq) (Mod.drewN _ _ _) (.inr (.inl (List.length_eq_zero_iff.1 (by rw [HLA.out.2]; exact hlb0))))
            have HX := Lib.hid (And.intro hx1 hx4)
            clear hx1 hx4
            by_cases hmx : l = 9223372036854775807
            · have hx5 := hx2 hmx
              subst hmx
              subst hx5
              clear hx2 hx3
              go_wp2_with fail
              go_ret2
              exact ⟨-1, HX.out.1, rfl, HX.out.2⟩
            · obtain ⟨hx5, hx6⟩ := hx3 hmx
              subst hx5
              have zmx : (x == 9223372036854775807) = false := beq_eq_false_iff_ne.2 hmx
              clear hx2 hx3
              go_wp2_with fail
              go_ret2
              refine ⟨x, HX.out.1, ?_, HX.out.2⟩
              rw [if_neg hx6, decide_eq_true hx6]
              rfl
          case neg =>
            have zB : decide ((0 : Int) < (lb : Int)) = true := by simp; omega
            have zBn : decide (0 < lb) = true := by simp; omega
            by_cases hcl : cA + cB < l
            case neg =>
              have zC : decide (cA + cB < l) = false := decide_eq_false hcl
              clear HGA HGB HST HBID HTO HR HN HTO2 HR2
              go_upto_region 8 with fail
              go_quiet ((go_at_call 27; first | with_reducible exact HQA.out _ | with_reducible exact HQB.out _))
              obtain ⟨x, hx1, hx2, hx3, hx4⟩ := HDONE.out (World.drewN wo nq) (Mod.drewN _ _ _) (.inr (.inr (by omega)))
              have HX := Lib.hid (And.intro hx1 hx4)
              clear hx1 hx4
              by_cases hmx : l = 9223372036854775807
              · have hx5 := hx2 hmx
                subst hmx
                subst hx5
                clear hx2 hx3
                go_wp2_with fail
                go_ret2
                exact ⟨-1, HX.out.1, rfl, HX.out.2⟩
              · obtain ⟨hx5, hx6⟩ := hx3 hmx
                subst hx5
                have zmx : (x == 9223372036854775807) = false := beq_eq_false_iff_ne.2 hmx
                clear hx2 hx3
                go_wp2_with fail
                go_ret2
                refine ⟨x, HX.out.1, ?_, HX.out.2⟩
                rw [if_neg hx6, decide_eq_true hx6]
                rfl
            case pos =>
              have zC : decide (cA + cB < l) = true := decide_eq_true hcl
              rcases SA with _ | ⟨yA, SA⟩
              · exact absurd HLA.out.1.symm hla0
              rcases SB with _ | ⟨yB, SB⟩
              · exact absurd HLA.out.2.symm hlb0
              clear HTO HR HN HTO2 HR2 HDONE HSTART
              go_upto_region 8 with fail
              go_quiet ((go_at_call 27; first | with_reducible exact HQA.out _ | with_reducible exact HQB.out _))
              obtain ⟨wB, hwB⟩ : ∃ y, World.drewN wo nq = y := ⟨_, rfl⟩
              have hTB := HTwo.out.later (W' := wB) (by rw [← hwB]; exact Mod.drewN _ _ _)
              (try rw [hwB])
              have hsA := stepA_any (webFrom G hm (k : Int) cl) dA HFA.out.1 HFA.out.2 hes (.pointer (some ⟨tA, 0, none⟩)) (.pointer (some ⟨bA, 0, none⟩)) oA pA rA w t a n c tA bA HGA.out HLO.out.1 wB dsA yA SA cA FA TA hTB.ea hTB.sa hTB.na HAB.out.1 oB pB rB dsB (yB :: SB) cB (gBack tB bB) FB hTB.sb hTB.dj (HAB.out.2.1.row HFB.out.2)
              have HSA := Lib.hid hsA
              have HTB := Lib.hid hTB
              clear hsA hTB hwB c3A c3B zA zAn zB zBn zC HQA HQB HTwo
              go_wp2_with fail
              refine HSA.out.mono ?_
              rintro e w3 ⟨x, rfl, hxT, hxm, hx0, dsA', SA', hqA, hA'⟩
              have hvAb := stepV_in hx0 (HFA.out.2 x) (HAB.out.2.1.row HFB.out.2 x)
              obtain ⟨vA, hvA⟩ : ∃ q, stepV (dAt dA x) dsB x = q := ⟨_, rfl⟩
              rw [hvA] at hvAb ⊢
              obtain ⟨FA', hT3⟩ := Two.goA (P := (Pl.mk pA rA tA bA oA pB rB tB bB oB)) HTB.out hqA
              have hsB := stepB_any (webTo G hm v cl) dB HFB.out.1 HFB.out.2 hes (.pointer (some ⟨bB, 0, none⟩)) (.pointer (some ⟨tB, 0, none⟩)) oB pB rB w t a n c tB bB HGB.out HLO.out.2 w3 dsB yB SB cB FB TB hT3.eb hT3.sb hT3.nb HAB.out.2.1 oA pA rA dsA' SA' (dAt dA x) (gOn tA bA) FA' hT3.sa (fun k h1 h2 => hT3.dj k h2 h1) (hA'.row HFA.out.2)
              have HSB := Lib.hid hsB
              have HT3 := Lib.hid hT3
              have HX := Lib.hid (And.intro hxT (And.intro hxm (And.intro hx0 (And.intro hvA hA'))))
              clear hsB hT3 hqA hxT hxm hx0 hvA hA'
              go_wp2_with fail
              refine HSB.out.mono ?_
              rintro e w4 ⟨y, rfl, hyT, hym, hy0, dsB', SB', hqB, hB'⟩
              have hvBb := stepV_in hy0 (HFB.out.2 y) (HX.out.2.2.2.2.row HFA.out.2 y)
              obtain ⟨vB, hvB⟩ : ∃ q, stepV (dAt dB y) dsA' y = q := ⟨_, rfl⟩
              rw [hvB] at hvBb ⊢
              obtain ⟨FB', hT4⟩ := Two.goB (P := (Pl.mk pA rA tA bA oA pB rB tB bB oB)) HT3.out hqB
              have HT4 := Lib.hid hT4
              have HY := Lib.hid (And.intro hyT (And.intro hym (And.intro hy0 (And.intro hvB hB'))))
              clear hT4 hqB hyT hym hy0 hvB hB'
              go_wp2_with fail
              obtain ⟨l1, hl1⟩ : ∃ q, (if vA < l then vA else l) = q := ⟨_, rfl⟩
              have h1 : l1 ≤ l ∧ l1 ≤ vA ∧ (l1 = l ∨ l1 = vA) := by rw [← hl1]; split <;> omega
              rw [hl1]
              obtain ⟨l2, hl2⟩ : ∃ q, (if vB < l1 then vB else l1) = q := ⟨_, rfl⟩
              have h2 : l2 ≤ l1 ∧ l2 ≤ vB ∧ (l2 = l1 ∨ l2 = vB) := by rw [← hl2]; split <;> omega
              rw [hl2]
              have mA := Mtg.stepA (l2 := l1) HBID.out HST.out hk HAB.out.2.2.1 HAB.out.2.1 HFB.out.2 HX.out.2.2.1 (by rw [HX.out.2.2.2.1]; exact h1)
              have mB := Mtg.stepB (l2 := l2) HBID.out HST.out hk mA HX.out.2.2.2.2 HFA.out.2 HFB.out.2 HY.out.2.2.1 (by rw [HY.out.2.2.2.1]; exact h2)
              have hT := HAB.out.2.2.2
              have hsz := HX.out.2.2.2.2.o.size HFA.out.1
              rw [List.length_append, List.length_singleton] at hsz
              have hnew : DInv (webFrom G hm (k : Int) cl) (webTo G hm v cl) dA dB (fun e => (eAt G (e : Int)).2.2) k t a n c w (Pl.mk pA rA tA bA oA pB rB tB bB oB) (.int .i64 l2) w4 (q0 - 1) := ⟨TA ++ [x], TB ++ [y], dsA', SA', dAt dA x, FA', dsB', SB', dAt dB y, FB', l2, rfl, by omega, HT4.out, HX.out.2.2.2.2, HY.out.2.2.2.2, mB, by rw [List.length_append, List.length_singleton]; omega⟩
              refine ⟨⟨_, hnew⟩, Nat.lt_of_le_of_lt (leastN_le hnew) ?_⟩
              rw [HQ0.out]
              omega
end Go.Proofs.Ytbjdjafkpldbnaa
