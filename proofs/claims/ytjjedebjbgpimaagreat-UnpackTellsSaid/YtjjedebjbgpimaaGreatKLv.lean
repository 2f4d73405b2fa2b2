/- rank's met and forget, by contract: what is found by searches that came to a number is dropped. -/
import Derived.Test.YtjjedebjbgpimaaGreatKRk
import Derived.Test.YtjjedebjbgpimaaGreatKVia
import Derived.Maps.RangeWalk
import Derived.Deep.DeepCutAuto
import Derived.Deep.CutBlock
import Derived.Test.YtjjedebjbgpimaaGreatNet8
import Derived.Test.YtjjedebjbgpimaaGreatLvP2
import Derived.Test.YtjjedebjbgpimaaGreatKN9
import Derived.Test.YtjjedebjbgpimaaGreatKNet4
namespace Go
open Go.Maps (Keyed)
theorem wpList_next_V {P : Program} (w : World) {ops : Array Oper} {rest : List Oper} {o : Oper} {a : Act} {Q : Exit → Act → World → Prop} (hg : o.guard = none) (it : Operand) (hop : o.op = Op.next it false) (k : TypeId) (K : Keyed P k) (hk : P.underlying k = some (.int .i64)) (b r n : Nat) (D : DataW Value) (left : Lit → Bool) (cnt : Nat)
  (hit : a.eval it = .pointer (some ⟨r, 0, none⟩)) (h : w.ranges P k Mile.heldE b r n D left cnt)
  (hDone : cnt = 0 → (∀ kl, left kl = false) → wpList P ops Q rest (a.put o.dst (.tuple #[.bool false])) w)
  (hMore : ∀ (x : Int) (c : Value) (w' : World) (cnt' : Nat), (Lit.int .i64 x).wf = true → left (.int .i64 x) = true → (∀ zd, D.atKey (.int .i64 x) zd = .held c) → w'.ranges P k Mile.heldE b r n D (fun z => left z && !z.sameKey (.int .i64 x)) cnt' → cnt' < cnt →
   w.grownBy w' (some r) → w'.heap.size = w.heap.size → (Instr.entry (.pointer (some ⟨r, 0, none⟩))).run P w' = .ok (.tuple #[.int .i64 x, c]) w' → wpList P ops Q rest (a.put o.dst (.tuple #[.bool true, .int .i64 x, c])) w') :
  wpList P ops Q (o :: rest) a w :=
 wpList_next_ranges w hg it hop k K Mile.heldE (Value.int .i64) (fun c : Value => c) (fun key kl hkey => by obtain ⟨x, rfl, _⟩ := Maps.keyOf_int_inv hk hkey; exact ⟨x, rfl⟩) (fun v _ _ => ⟨v, rfl⟩)
  b r n D left cnt hit h hDone (fun x c kl y w' cnt' hkey hlk hv hat hrg hlt hgr hsz hen => by
   obtain ⟨x', ex, rfl, hwx⟩ := Maps.keyOf_int_inv hk hkey
   cases ex
   have hv2 : some (DataW.held c, []) = some y := hv
   cases hv2
   exact hMore x c w' cnt' hwx hlk hat hrg hlt hgr hsz hen)
end Go
namespace Go.Proofs.YtjjedebjbgpimaaGreat
open Go.RowKit Mile Go.Maps
set_option maxRecDepth 100000
attribute [local go_sem] Oper.semAt_some
theorem same_i16 (a b : Int) : (Lit.int .i64 a).sameKey (.int .i64 b) = decide (a = b) := by simp [Lit.sameKey]
theorem RowS.uniq {w : World} {v : Value} {R R' : List Stp} (h : RowS w v R) (h' : RowS w v R') : R = R' := by
 obtain ⟨a, c, e, o⟩ := h
 obtain ⟨a', c', e', o'⟩ := h'
 rw [e] at e'
 injection e' with e1 e2 e3
 subst e1; subst e3
 rw [e] at o o'
 have r1 := Rd.ofOwn o
 have r2 : Rd w 3 (.slice a R.length c) R'.length (R'.flatMap c3s) := Rd.ofOwn o'
 rw [← e2] at r2
 apply List.ext_getElem e2
 intro i h1 h2
 obtain ⟨b, p, hp, k1, k2, k3⟩ := rd3s r1 i h1
 obtain ⟨b', p', hp', g1, g2, g3⟩ := rd3s r2 i h2
 rw [hp] at hp'
 injection hp' with hb ho
 subst hb; subst ho
 rw [k1] at g1; rw [k2] at g2; rw [k3] at g3
 have f1 := Option.some.inj g1
 have f2 := Option.some.inj g2
 have f3 := Option.some.inj g3
 injection f1 with _ f1
 injection f2 with _ f2
 injection f3 with _ f3
 exact Prod.ext f1 (Prod.ext f2 f3)
def ClR (w : World) (v : Int) (x : Value) : Prop := ∃ R, RowS w x R ∧ ∀ s ∈ R, s.1 ≠ v
theorem ClR.keep {w w' : World} {v : Int} {x : Value} {G : Nat → Prop} (h : ClR w v x) (hm : Mod G w w') (hG : ∀ k, x.ownBlock = some k → ¬ G k) : ClR w' v x := by
 obtain ⟨R, h1, h2⟩ := h
 exact ⟨R, h1.keep hm hG, h2⟩
def MetP (R : List Stp) (f : Int → Option Value) (v : Int) (w : World) (e : Ending) (w' : World) : Prop :=
 ∃ r, e = .returned (.bool r) ∧ (r = false → (∀ s ∈ R, s.1 ≠ v) ∧ ∀ u x, f u = some x → ClR w' v x) ∧ Mod (fun _ => False) w w'
theorem Lv.key : Keyed Tryz.prog 3 := int_keyed Tryz.underlying3
theorem vranges_keepM {w w' : World} {b r n : Nat} {D : DataW Value} {left : Lit → Bool} {cnt : Nat} {G : Nat → Prop} (h : w.ranges Tryz.prog 3 heldE b r n D left cnt) (hm : Mod G w w') (hb : ¬ G b) (hr : ¬ G r) : w'.ranges Tryz.prog 3 heldE b r n D left cnt := by
 have h1 := h.owns.lt
 have h2 := h.lt
 obtain ⟨es, clock, since, seen, c0, hbb, F, hs, hD, hrr, rest⟩ := h
 exact ⟨es, clock, since, seen, c0, (hm.block b h1 hb).trans hbb, F, hs, hD, (hm.block r h2 hr).trans hrr, rest⟩
set_option maxHeartbeats 4000000 in
theorem met_any (w : World) (q o : Nat) (v : Int) (a : Option Addr) (n c : Nat) (R : List Stp) (hn : R.length = n) (hrd : Rd w 3 (.slice a n c) n (R.flatMap c3s)) (hb : n ≤ 1000000) (mb : Option Nat) (f : Int → Option Value) (c0 : w.cell? ⟨q, o, none⟩ = some (.slice a n c)) (c1 : w.cell? ⟨q, o + 1, none⟩ = some (.map mb))
  (hf0 : mb = none → f = fun _ => none) (hf : ∀ b, mb = some b → VMap Tryz.prog 3 w b f) (hrow : ∀ u x, f u = some x → ∃ R, RowS w x R ∧ R.length ≤ 1000000) :
  Calls Tryz.prog 120 #[.pointer (some ⟨q, o, none⟩), .int .i64 v] w (MetP R f v w) := by
 have hHA := Lib.hid (rhas_any v w a n c R hn hrd hb)
 have HF := Lib.hid (And.intro hf0 (And.intro hf hrow))
 have HR := Lib.hid hn
 clear hf0 hf hrow hrd hn
 obtain ⟨r1, hr1⟩ : ∃ y, R.any (fun x => x.1 == v) = y := ⟨_, rfl⟩
 rw [hr1] at hHA
 have H1 := Lib.hid hr1
 clear hr1
 go_enter Tryz.func120, Tryz.ntmps120
 go_wp2_with fail
 refine hHA.out.mono ?_
 rintro e w1 ⟨rfl, hm1⟩
 have HM1 := Lib.hid hm1
 replace c1 := hm1.cell c1 (fun e => e)
 clear hm1 hHA c0
 cases r1 with
 | true =>
  go_wp2_with fail
  go_ret
  exact ⟨true, rfl, fun e => (by cases e), HM1.out⟩
 | false =>
  have hnR := any_no H1.out
  have HNR := Lib.hid hnR
  clear hnR
  cases mb with
  | none =>
   have hrg := run_range_nilMap (P := Tryz.prog) w1 151 3 145 Tryz.underlying151
   have hnx : ∀ ty, (Instr.next (.pointer (some ⟨w1.heap.size, 0, none⟩)) false ty).run Tryz.prog (w1.alloc (.mapIter none 0 #[] 0)) = _ := fun ty => run_next_nilMap w1 ty 0 0 #[]
   go_wp2_with fail
   refine wp_loop_rounds 1 ?_
   rw [rounds_succ]
   go_wp2_with fail
   go_ret
   refine ⟨false, rfl, fun _ => ⟨HNR.out, fun u x hx => ?_⟩, HM1.out.of2 (Mod.alloc _ _ _)⟩
   rw [HF.out.1 (by first | trivial | rfl)] at hx
   cases hx
  | some b =>
   obtain ⟨nn, D, hown, hwf, hD⟩ := (HF.out.2.1 b rfl).keep HM1.out (fun e => e)
   have HOW := Lib.hid hown
   have HD := Lib.hid (And.intro hwf hD)
   have hbl := hown.lt
   clear hown hwf hD
   go_wp2_with (first
    | (at_range; refine wpList_range_own _ rfl _ 151 rfl 3 145 Lv.key Tryz.underlying151 _ b nn _ rfl HOW.out ?_; intro w0 hrg0 hg0 hs0)
    | go_in)
   go_frame
   obtain ⟨r, hr⟩ : ∃ r, w1.heap.size = r := ⟨_, rfl⟩
   rw [hr] at hrg0 hs0 ⊢
   have HRR := Lib.hid hr
   have hm0 := (Mod.ofGrown hg0).mono (G := fun _ => False) (fun k _ e => by cases e)
   have HM0 := Lib.hid (HM1.out.of2 hm0)
   clear hr hm0 hg0
   go_loopw [6] (fun _ wr => ∃ (left : Lit → Bool) (cnt : Nat), wr.ranges Tryz.prog 3 heldE b r nn D left cnt ∧ (∀ u x, f u = some x → left (.int .i64 u) = false → ClR wr v x) ∧ Mod (fun k => k = r) w0 wr) (fun _ wr => wr.rangeLeft b r)
   case atStart =>
    refine ⟨_, _, hrg0, fun u x hx hl => ?_, Mod.refl _ _⟩
    have h1 := HD.out.1 u x hx
    rw [(HD.out.2 u h1).1, hx] at hl
    cases hl
   case round =>
    obtain ⟨left, cnt, hrg, hall, hmr⟩ := hrel
    obtain ⟨wo, hwo⟩ : ∃ x : World, x = wr := ⟨_, rfl⟩
    subst hwo
    have HA := Lib.hid hall
    have HMR := Lib.hid (HM0.out.trans hmr (H := fun k => k = r) (fun _ _ e => e.elim) (fun _ _ e => e))
    have HMR0 := Lib.hid hmr
    have hsz := hmr.size
    clear hall hmr
    have hbr : b ≠ r := fun e => hrg.ne e.symm
    have hrl := hrg.lt
    have hro : w.heap.size ≤ r := by have := HM1.out.size; have := HRR.out; omega
    go_wp2_with (first
     | (at_next; refine wpList_next_V _ rfl _ rfl 3 Lv.key Tryz.underlying3 b r nn D _ _ rfl hrg ?_ ?_)
     | go_in)
    ·
     intro hc0 hl0
     have HL0 := Lib.hid hl0
     clear hl0 hrg hrg0
     go_wp2_with fail
     go_ret
     exact ⟨false, rfl, fun _ => ⟨HNR.out, fun u x hx => HA.out u x hx (HL0.out _)⟩, HMR.out.mono (fun k hk e => by have e2 : k = r := e; omega)⟩
    ·
     intro u x w2 cnt2 hwu hlx hat hrg2 hlt hg2 hs2 hen
     have hm2 := Mod.ofGrown hg2
     have hfx : f u = some x := by
      have h1 := (HD.out.2 u hwu).2 (.int .i64 0)
      have h2 := (HD.out.2 u hwu).2 (.int .i64 1)
      rw [hat] at h1 h2
      injection h1 with h1
      injection h2 with h2
      cases hf : f u with
      | none => rw [hf] at h1 h2; rw [Option.getD_none] at h1 h2; rw [h1] at h2; cases h2
      | some y => rw [hf] at h1; rw [Option.getD_some] at h1; rw [h1]
     obtain ⟨R2, hR2, hl2⟩ := HF.out.2.2 u x hfx
     have hmw2 : Mod (fun k => k = r) w w2 := HMR.out.trans hm2 (fun _ _ e => e) (fun i _ e => by injection e with e; exact e.symm)
     have hR3 : RowS w2 x R2 := hR2.keep hmw2 (fun k hk e => by have := (hR2.ty hk).lt; have e2 : k = r := e; omega)
     obtain ⟨a2, c2, rfl, ho2⟩ := id hR3
     have hHB := Lib.hid (rhas_any v w2 a2 R2.length c2 R2 rfl (Rd.ofOwn ho2) hl2)
     obtain ⟨r2, hr2⟩ : ∃ y, R2.any (fun x => x.1 == v) = y := ⟨_, rfl⟩
     rw [hr2] at hHB
     have H2 := Lib.hid hr2
     have HR3 := Lib.hid hR3
     have HG2 := Lib.hid hrg2
     have HM2 := Lib.hid hm2
     have HMW := Lib.hid hmw2
     have HG := Lib.hid hrg
     have HFX := Lib.hid hfx
     obtain ⟨n2, hn2⟩ : ∃ y, R2.length = y := ⟨_, rfl⟩
     rw [hn2] at hHB hen
     have HN2 := Lib.hid hn2
     clear hr2 hR3 hrg2 hm2 hmw2 hrg hrg0 hfx hR2 ho2 hlx hat hl2 hn2 hwu hg2
     go_wp2_with fail
     refine hHB.out.mono ?_
     rintro e w3 ⟨rfl, hm3⟩
     have HM3 := Lib.hid hm3
     clear hm3 hHB hen
     cases r2 with
     | true =>
      go_wp2_with fail
      go_ret
      exact ⟨true, rfl, fun e => (by cases e), (HMW.out.trans HM3.out (H := fun k => k = r) (fun _ _ e => e) (fun _ _ e => e.elim)).mono (fun k hk e => by have e2 : k = r := e; omega)⟩
     | false =>
      go_wp2_with fail
      have hgA := vranges_keepM HG2.out HM3.out (fun x => x) (fun x => x)
      go_roundw
      case rel =>
       refine ⟨_, cnt2, hgA, fun u' x' hx' hl' => ?_, (HMR0.out.trans HM2.out (H := fun k => k = r) (fun _ _ x => x) (fun i _ x => by injection x with x; exact x.symm)).trans HM3.out (fun _ _ x => x) (fun _ _ x => x.elim)⟩
       obtain ⟨R5, h5, _⟩ := HF.out.2.2 u' x' hx'
       have hb5 : ∀ k, x'.ownBlock = some k → k ≠ r := fun k hk e => by have := (h5.ty hk).lt; omega
       by_cases hu : u' = u
       ·
        subst hu
        rw [HFX.out] at hx'
        obtain rfl := Option.some.inj hx'
        exact ⟨R2, HR3.out.keep HM3.out (fun _ _ e => e), any_no H2.out⟩
       ·
        try dsimp only at hl'
        rw [same_i16, decide_eq_false hu] at hl'
        have hl2 : left (.int .i64 u') = false := by simpa using hl'
        exact ((HA.out u' x' hx' hl2).keep HM2.out (fun k hk e => by injection e with e; exact hb5 k hk e.symm)).keep HM3.out (fun _ _ e => e)
      case measure => rw [hgA.left_eq, HG.out.left_eq]; exact hlt
def CleanN (w : World) (v : Int) (al : Nat → Value) (le : Nat → Int → Option Value) (i : Nat) : Prop := (al i = .slice none 0 0 ∨ ClR w v (al i)) ∧ ∀ u x, le i u = some x → ClR w v x
section
variable {w : World} {p q tp n : Nat} {L L' : List Ar} {D D' : Nat → Int → List Int} {al : Nat → Value} {ml : Nat → Option Nat} {le : Nat → Int → Option Value}
theorem CleanN.keep {w' : World} {v : Int} {G : Nat → Prop} {i : Nat} (h : CleanN w v al le i) (hi : i < n) (hm : Mod G w w') (hG : ∀ k, rmF p q n al ml le k → ¬ G k) : CleanN w' v al le i :=
 ⟨h.1.imp id (fun h1 => h1.keep hm (fun k hk => hG k (.inr (.inr (.inr (.inl ⟨i, hi, hk⟩)))))), fun u x hx => (h.2 u x hx).keep hm (fun k hk => hG k (.inr (.inr (.inr (.inr ⟨i, hi, u, x, hx, hk⟩)))))⟩
theorem RM.over (h : RM w p q tp n L D al ml le) {v : Nat} (hc : ∀ i, i < n → CleanN w (v : Int) al le i) (hD : DOk n L D) (hD' : DOk n L' D') (ht : ∀ (fr : Nat) (wo : Int), wo ≠ (v : Int) → Taken (netW n L (fr : Int) wo) (netW n L' (fr : Int) wo) v) : RM w p q tp n L' D' al ml le := by
 refine ⟨h.n512, h.blk, h.row, fun i hi => ?_, h.mv, h.ml0, fun i hi u x hx => ?_, h.ov, h.one⟩
 ·
  rcases h.av i hi with e | ⟨R, h1, h2, h3⟩
  ·
   exact .inl e
  ·
   rcases (hc i hi).1 with e | ⟨R', g1, g2⟩
   ·
    exact .inl e
   ·
    obtain rfl := h1.uniq g1
    exact .inr ⟨R, h1, h2, h3.over (ht i (-1) (by omega)) (hD i (-1)) (hD' i (-1)) g2⟩
 ·
  obtain ⟨u2, R, h1, h2, h3, h4⟩ := h.lv i hi u x hx
  obtain ⟨R', g1, g2⟩ := (hc i hi).2 u x hx
  obtain rfl := h3.uniq g1
  refine ⟨u2, R, h1, h2, h3, h4.over (ht i (u2 : Int) ?_) (hD i _) (hD' i _) g2⟩
  obtain ⟨R3, k1, s, hs, hsu⟩ := h.ov i hi u x hx
  rcases (hc i hi).1 with e | ⟨R4, k2, k3⟩
  ·
   rw [e] at k1
   obtain ⟨a, c, k4, _⟩ := k1
   have k5 : 0 = R3.length := by injection k4
   rw [List.eq_nil_of_length_eq_zero k5.symm] at hs
   cases hs
  ·
   obtain rfl := k1.uniq k2
   have := k3 s hs
   omega
theorem RM.clear (h : RM w p q tp n L D al ml le) {i : Nat} (hi : i < n) : RM ((w.setCell ⟨q, i * 2, none⟩ (.slice none 0 0)).setCell ⟨q, i * 2 + 1, none⟩ (.map none)) p q tp n L D (upN al i (.slice none 0 0)) (upN ml i none) (upN le i (fun _ => none)) := by
 have hm : Mod (fun k => k = q) w ((w.setCell ⟨q, i * 2, none⟩ (.slice none 0 0)).setCell ⟨q, i * 2 + 1, none⟩ (.map none)) := (Mod.setCell (F := fun k => k = q) _ _ _ rfl).trans (Mod.setCell (F := fun k => k = q) _ _ _ rfl) (fun _ _ e => e) (fun _ _ e => e)
 have hq := BlT.blk h.row
 have hr : ∀ {v : Value} {R : List Stp}, RowS w v R → RowS ((w.setCell ⟨q, i * 2, none⟩ (.slice none 0 0)).setCell ⟨q, i * 2 + 1, none⟩ (.map none)) v R := fun hv => hv.keep hm (fun k hk => BlT.ne (hv.ty hk) hq (by decide))
 refine ⟨h.n512, h.blk.keep hm h.pq, ?_, fun j hj => ?_, fun j hj b hb => ?_, fun j hj hb => ?_, fun j hj v y hy => ?_, fun j hj v y hy => ?_, fun j k hj hk b hb1 hb2 => ?_⟩
 ·
  rw [← nearC_setM _ ml none n i hi, ← nearC_setA al ml (.slice none 0 0) n i hi]
  exact (h.row.set _ _).set _ _
 ·
  by_cases e : j = i
  ·
   subst e; rw [upN_at]; exact .inl rfl
  ·
   rw [upN_ne _ _ e]; exact (h.av j hj).imp id (fun ⟨R, h1, h2⟩ => ⟨R, hr h1, h2⟩)
 ·
  by_cases e : j = i
  ·
   subst e; rw [upN_at] at hb; cases hb
  ·
   rw [upN_ne _ _ e] at hb ⊢
   exact (h.mv j hj b hb).keep hm (vmap_not (h.mv j hj b hb) hq)
 ·
  by_cases e : j = i
  ·
   subst e; rw [upN_at]
  ·
   rw [upN_ne _ _ e] at hb ⊢; exact h.ml0 j hj hb
 ·
  by_cases e : j = i
  ·
   subst e; rw [upN_at] at hy; cases hy
  ·
   rw [upN_ne _ _ e] at hy
   obtain ⟨u, R, h1, h2, h3, h4⟩ := h.lv j hj v y hy
   exact ⟨u, R, h1, h2, hr h3, h4⟩
 ·
  by_cases e : j = i
  ·
   subst e; rw [upN_at] at hy; cases hy
  ·
   rw [upN_ne _ _ e] at hy ⊢
   obtain ⟨R, h1, h2⟩ := h.ov j hj v y hy
   exact ⟨R, hr h1, h2⟩
 ·
  by_cases e1 : j = i
  ·
   subst e1; rw [upN_at] at hb1; cases hb1
  ·
   by_cases e2 : k = i
   ·
    subst e2; rw [upN_at] at hb2; cases hb2
   ·
    rw [upN_ne _ _ e1] at hb1; rw [upN_ne _ _ e2] at hb2
    exact h.one j k hj hk b hb1 hb2
theorem rmF_clear {i k : Nat} (h : rmF p q n (upN al i (.slice none 0 0)) (upN ml i none) (upN le i (fun _ => none)) k) : rmF p q n al ml le k := by
 rcases h with h | h | ⟨j, hj, hk⟩ | ⟨j, hj, hk⟩ | ⟨j, hj, v, x, hx, hk⟩
 ·
  exact .inl h
 ·
  exact .inr (.inl h)
 ·
  by_cases e : j = i
  ·
   subst e; rw [upN_at] at hk; cases hk
  ·
   rw [upN_ne _ _ e] at hk; exact .inr (.inr (.inl ⟨j, hj, hk⟩))
 ·
  by_cases e : j = i
  ·
   subst e; rw [upN_at] at hk; cases hk
  ·
   rw [upN_ne _ _ e] at hk; exact .inr (.inr (.inr (.inl ⟨j, hj, hk⟩)))
 ·
  by_cases e : j = i
  ·
   subst e; rw [upN_at] at hx; cases hx
  ·
   rw [upN_ne _ _ e] at hx; exact .inr (.inr (.inr (.inr ⟨j, hj, v, x, hx, hk⟩)))
end
structure FgS (w : World) (p q tp n : Nat) (L : List Ar) (D : Nat → Int → List Int) (F : Nat → Prop) (v k : Nat) (W : World) : Prop where
 ex : ∃ al ml le, RM W p q tp n L D al ml le ∧ (∀ j, rmF p q n al ml le j → F j) ∧ ∀ i, i < k → CleanN W (v : Int) al le i
 md : Mod F w W
theorem FgS.later {w W W' : World} {p q tp n : Nat} {L : List Ar} {D : Nat → Int → List Int} {F : Nat → Prop} {v k : Nat} (h : FgS w p q tp n L D F v k W) (hk : k ≤ n) (hm : Mod (fun _ => False) W W') : FgS w p q tp n L D F v k W' := by
 obtain ⟨⟨al, ml, le, h1, h2, h3⟩, h4⟩ := h
 exact ⟨⟨al, ml, le, h1.later hm, h2, fun i hi => (h3 i hi).keep (p := p) (q := q) (ml := ml) (show i < n by omega) hm (fun _ _ e => e)⟩, h4.trans hm (fun _ _ e => e) (fun _ _ e => e.elim)⟩
def FgP (p tp n : Nat) (L' : List Ar) (D' : Nat → Int → List Int) (F : Nat → Prop) (w : World) (e : Ending) (w' : World) : Prop := e = .returned (.tuple #[]) ∧ (∃ F', RO w' p tp n L' D' F' ∧ ∀ k, F' k → F k) ∧ Mod F w w'
set_option maxHeartbeats 4000000 in
theorem forget_any {w : World} {p tp n : Nat} {L L' : List Ar} {D D' : Nat → Int → List Int} {F : Nat → Prop} (h : RO w p tp n L D F) (v : Nat) (hD : DOk n L D) (hD' : DOk n L' D') (ht : ∀ (fr : Nat) (wo : Int), wo ≠ (v : Int) → Taken (netW n L (fr : Int) wo) (netW n L' (fr : Int) wo) v) :
  Calls Tryz.prog 93 #[.pointer (some ⟨p, 0, none⟩), .int .i64 (v : Int)] w (FgP p tp n L' D' F w) := by
 obtain ⟨q, al, ml, le, hRM, rfl⟩ := h
 obtain ⟨iN, hiN, hzN, hsN, hbN⟩ := info_parts infoNr
 have h512 := hRM.n512
 have b1 := hRM.blk.cell 1 rfl
 have HT := Lib.hid (And.intro hD (And.intro hD' ht))
 have HS0 : Hid (FgS w p q tp n L D (rmF p q n al ml le) v 0 w) := Lib.hid ⟨⟨al, ml, le, hRM, fun _ e => e, fun i hi => by omega⟩, Mod.refl _ _⟩
 clear hRM hD hD' ht
 go_enter Tryz.func93, Tryz.ntmps93
 go_wp2_with fail
 clear b1
 go_loopw [10] (fun i wr => ∃ k : Nat, k ≤ n ∧ i = .int .i64 k ∧ FgS w p q tp n L D (rmF p q n al ml le) v k wr) (fun i _ => n - (intOf i).toNat)
 case atStart => exact ⟨0, by omega, rfl, HS0.out⟩
 case round =>
  obtain ⟨k, hk, rfl, hs⟩ := hrel
  obtain ⟨wo, hwo⟩ : ∃ x : World, x = wr := ⟨_, rfl⟩
  subst hwo
  have HS := Lib.hid hs
  clear hs
  by_cases hlt : k < n
  case neg =>
   obtain rfl : k = n := by omega
   have z0 : decide ((k : Int) < (k : Int)) = false := by simp
   go_wp2_with fail
   go_end0
   obtain ⟨⟨al', ml', le', h1, h2, h3⟩, h4⟩ := HS.out
   exact ⟨rfl, ⟨_, ⟨q, al', ml', le', h1.over h3 HT.out.1 HT.out.2.1 HT.out.2.2, rfl⟩, h2⟩, h4⟩
  case pos =>
   have z0 : decide ((k : Int) < (n : Int)) = true := by simp; omega
   have hix := fun wx => run_indexS (P := Tryz.prog) wx 112 153 iN 2 Tryz.underlying112 hiN hsN (some ⟨q, 0, none⟩) n n k hlt (by simp)
   rw [elemA_lit2] at hix
   obtain ⟨⟨al', ml', le', hRM, hF, hcl⟩, hmd⟩ := HS.out
   have b1 := hRM.blk.cell 1 rfl
   have cA := hRM.row.cell (k * 2) (nearC_at al' ml' n k hlt).1
   have cM := hRM.row.cell (k * 2 + 1) (nearC_at al' ml' n k hlt).2
   have hav : ∃ a c R, al' k = .slice a R.length c ∧ Rd wo 3 (.slice a R.length c) R.length (R.flatMap c3s) ∧ R.length ≤ 1000000 ∧ (al' k = .slice none 0 0 ∨ RowS wo (al' k) R) := by
    rcases hRM.av k hlt with e | ⟨R, h1, _, h3⟩
    ·
     exact ⟨none, 0, [], e, Rd.nil _ _, by simp, .inl e⟩
    ·
     obtain ⟨a, c, g1, g2⟩ := id h1
     rw [g1] at g2
     exact ⟨a, c, R, g1, Rd.ofOwn g2, by have := stops_len h3; omega, .inr h1⟩
   obtain ⟨a, c, R, hal, hrd, hlR, hor⟩ := hav
   rw [hal] at cA
   have hME := Lib.hid (met_any wo q (k * 2) (v : Int) a R.length c R rfl hrd hlR (ml' k) (le' k) cA cM (hRM.ml0 k hlt) (hRM.mv k hlt) (fun u x hx => by
    obtain ⟨_, R2, _, _, g1, g2⟩ := hRM.lv k hlt u x hx
    exact ⟨R2, g1, by have := stops_len g2; omega⟩))
   have HX := Lib.hid (And.intro hRM (And.intro hF (And.intro hcl (And.intro hmd (And.intro hal hor)))))
   clear hRM hF hcl hmd hal hor hrd hlR cA cM
   go_wp2_with fail
   refine hME.out.mono ?_
   rintro e w2 ⟨r, rfl, hr, hm2⟩
   have HR := Lib.hid (And.intro hr hm2)
   replace b1 := hm2.cell b1 (fun e => e)
   clear hr hm2 hME
   cases r with
   | false =>
    go_wp2_with fail
    go_roundw
    case rel =>
     refine ⟨k + 1, hlt, by go_num, ?_⟩
     obtain ⟨hRM, hF, hcl, hmd, hal, hor⟩ := HX.out
     have h9 := (FgS.mk ⟨al', ml', le', hRM, hF, hcl⟩ hmd : FgS w p q tp n L D (rmF p q n al ml le) v k wo).later hk HR.out.2
     obtain ⟨hn, hall⟩ := HR.out.1 (by first | trivial | rfl)
     refine ⟨⟨al', ml', le', hRM.later HR.out.2, hF, fun i hi => ?_⟩, h9.md⟩
     by_cases e : i = k
     ·
      subst e
      exact ⟨hor.imp id (fun h => ⟨R, h.keep HR.out.2 (fun _ _ e => e), hn⟩), hall⟩
     ·
      exact (hcl i (by omega)).keep (p := p) (q := q) (ml := ml') (show i < n by omega) HR.out.2 (fun _ _ e => e)
    case measure => simp [intOf]; omega
   | true =>
    have hrm2 := HX.out.1.later HR.out.2
    have f0 := hrm2.row.free (k * 2)
    have f1 := hrm2.row.free (k * 2 + 1)
    have d0 := hrm2.row.cell (k * 2) (nearC_at al' ml' n k hlt).1
    have d1 := hrm2.row.cell (k * 2 + 1) (nearC_at al' ml' n k hlt).2
    have HRM2 := Lib.hid hrm2
    clear hrm2
    go_wp2_with fail
    go_roundw
    case rel =>
     refine ⟨k + 1, hlt, by go_num, ?_⟩
     obtain ⟨hRM, hF, hcl, hmd, hal, hor⟩ := HX.out
     have hc := HRM2.out.clear hlt
     have hmc : Mod (fun j => j = q) w2 ((w2.setCell ⟨q, k * 2, none⟩ (.slice none 0 0)).setCell ⟨q, k * 2 + 1, none⟩ (.map none)) := (Mod.setCell (F := fun k => k = q) _ _ _ rfl).trans (Mod.setCell (F := fun j => j = q) _ _ _ rfl) (fun _ _ e => e) (fun _ _ e => e)
     have hqF : rmF p q n al ml le q := hF q (.inr (.inl rfl))
     refine ⟨⟨_, _, _, hc, fun j hj => hF j (rmF_clear hj), fun i hi => ?_⟩, (hmd.trans HR.out.2 (H := rmF p q n al ml le) (fun _ _ e => e) (fun _ _ e => e.elim)).trans hmc (fun _ _ e => e) (fun j _ e => by have e2 : j = q := e; rw [e2]; exact hqF)⟩
     by_cases e : i = k
     ·
      subst e
      exact ⟨.inl (upN_at _ _ _), fun u x hx => by rw [upN_at] at hx; cases hx⟩
     ·
      have h9 := (hcl i (by omega)).keep (p := p) (q := q) (ml := ml') (show i < n by omega) HR.out.2 (fun _ _ e => e)
      have hcq : ∀ {x : Value}, ClR w2 (v : Int) x → ClR ((w2.setCell ⟨q, k * 2, none⟩ (.slice none 0 0)).setCell ⟨q, k * 2 + 1, none⟩ (.map none)) (v : Int) x := fun {x} hx => hx.keep hmc (fun j hj => by
       obtain ⟨R4, g1, _⟩ := hx
       exact BlT.ne (g1.ty hj) (BlT.blk HRM2.out.row) (by decide))
      refine ⟨?_, fun u x hx => ?_⟩
      ·
       rw [upN_ne _ _ e]; exact h9.1.imp id hcq
      ·
       rw [upN_ne _ _ e] at hx; exact hcq (h9.2 u x hx)
    case measure => simp [intOf]; omega
end Go.Proofs.YtjjedebjbgpimaaGreat
namespace Go.Proofs.YtjjedebjbgpimaaGreat
open Go.RowKit Mile
set_option maxRecDepth 100000
attribute [local go_sem] Oper.semAt_some
theorem RO.notT {w : World} {p tp n : Nat} {L : List Ar} {D : Nat → Int → List Int} {F : Nat → Prop} (h : RO w p tp n L D F) {k : Nat} {T : TypeId} (hk : BlT w k T) (h1 : 114 ≠ T) (h2 : 153 ≠ T) (h3 : 148 ≠ T) : ¬ F k := by
 obtain ⟨q, al, ml, le, hr, rfl⟩ := h
 rintro (e | e | ⟨i, hi, e⟩ | ⟨i, hi, e⟩ | ⟨i, hi, v, x, hx, e⟩)
 ·
  exact BlT.ne hk (BlT.blk hr.blk) (fun x => h1 x.symm) e
 ·
  exact BlT.ne hk (BlT.blk hr.row) (fun x => h2 x.symm) e
 ·
  exact vmap_not (hr.mv i hi k e) hk rfl
 ·
  exact BlT.ne (hr.aty hi e) hk h3 rfl
 ·
  exact BlT.ne (hr.lty hi hx e) hk h3 rfl
structure PuS (w1 : World) (tp n : Nat) (L A : List Ar) (FN : Nat → Prop) (j : Nat) (W : World) : Prop where
 nt : ∃ F', NT W tp n ((A.take j).foldl (putR n) L) F' ∧ ∀ k, F' k → FN k ∨ w1.heap.size ≤ k
 md : Mod FN w1 W
theorem PuS.later {w1 W W' : World} {tp n : Nat} {L A : List Ar} {FN : Nat → Prop} {j : Nat} (h : PuS w1 tp n L A FN j W) (hm : Mod (fun _ => False) W W') : PuS w1 tp n L A FN j W' := by
 obtain ⟨⟨F', h1, h2⟩, h3⟩ := h
 exact ⟨⟨F', h1.later hm, h2⟩, h3.trans hm (fun _ _ e => e) (fun _ _ e => e.elim)⟩
theorem PuS.put {w1 W W' : World} {tp n : Nat} {L A : List Ar} {FN F' : Nat → Prop} {j : Nat} (h : PuS w1 tp n L A FN j W) (hF : ∀ k, F' k → FN k ∨ w1.heap.size ≤ k) (hj : j < A.length) (hq : NQ tp n (putR n ((A.take j).foldl (putR n) L) A[j]) F' W W') : PuS w1 tp n L A FN (j + 1) W' := by
 obtain ⟨F2, h1, h2, h3⟩ := hq
 have hz := h.md.size
 refine ⟨⟨F2, ?_, fun k hk => (h2 k hk).elim (hF k) (fun e => .inr (by omega))⟩, h.md.trans h3 (fun _ _ e => e) (fun k hk e => (hF k e).elim id (fun e2 => by omega))⟩
 rw [List.take_succ_eq_append_getElem hj, List.foldl_append]
 exact h1
def TakP (p tp n : Nat) (L L' A : List Ar) (D' : Nat → Int → List Int) (F FN : Nat → Prop) (w : World) (e : Ending) (w' : World) : Prop :=
 ∃ a c, e = .returned (.slice a A.length c) ∧ w'.ownsRow w.heap.size 50 4 (.slice a A.length c) A.length (A.flatMap c4) ∧ ∃ F' FN', RO w' p tp n L' D' F' ∧ NT w' tp n L' FN' ∧ (∀ k, F' k → F k ∨ w.heap.size ≤ k) ∧ (∀ k, FN' k → FN k ∨ w.heap.size ≤ k) ∧ (∀ k, FN' k → ¬ F' k) ∧ Mod (fun k => F k ∨ FN k) w w'
set_option maxHeartbeats 8000000 in
theorem take_any {w : World} {p tp n : Nat} {L : List Ar} {D D' : Nat → Int → List Int} {F FN : Nat → Prop} (h : RO w p tp n L D F) (hN : NT w tp n L FN) (hap : ∀ k, FN k → ¬ F k) (hD : DOk n L D) (v : Nat) (hv : v < n) (hD' : DOk n (takeR n D L v) D') :
  Calls Tryz.prog 57 #[.pointer (some ⟨p, 0, none⟩), .int .i64 (v : Int)] w (TakP p tp n L (takeR n D L v) (scR D L (v : Int)) D' F FN w) := by
 obtain ⟨iA, hiA, hzA, hsA, hbA⟩ := info_parts Nt.infoA
 have h512 := h.n512
 have hw : ∀ a ∈ L, a.w ≤ 1099511627776 := fun a ha => (hN.ok.may a ha).2.2.2.2.2.2.1
 have HS := Lib.hid (rest_sc h hN hap hw hD v hv)
 have HN := Lib.hid (And.intro hN hap)
 have HD := Lib.hid (And.intro hD hD')
 have hsl : (scR D L (v : Int)).length ≤ 1000000 := by
  have h1 := scI_len D L (v : Int) (inL L (v : Int))
  have h2 := inL_len hN.ok (v : Int)
  have h3 := outL_len hN.ok (v : Int)
  have h4 := Nat.mul_le_mul h2 h3
  have h5 : n * n ≤ 512 * 512 := Nat.mul_le_mul h512 h512
  have h6 : (scR D L (v : Int)).length = (scI D L (v : Int) (inL L (v : Int))).length := rfl
  omega
 clear h hN hap hD hD' hw
 obtain ⟨A, hA⟩ : ∃ y, scR D L (v : Int) = y := ⟨_, rfl⟩
 have HA := Lib.hid hA
 unfold ScP at HS
 rw [hA] at HS hsl ⊢
 clear hA
 obtain ⟨m, hm⟩ : ∃ y, A.length = y := ⟨_, rfl⟩
 have HM := Lib.hid hm
 rw [hm] at HS hsl
 clear hm
 go_enter Tryz.func57, Tryz.ntmps57
 go_wp2_with fail
 refine HS.out.mono ?_
 rintro e w1 ⟨a, c, rfl, ho1, F1, hro1, hF1, hm1⟩
 obtain ⟨hFp1, q1, b0, b1⟩ := hro1.cells
 have hnt1 := HN.out.1.keep hm1 (fun k hk e => HN.out.2 k hk e)
 have hFNlt := HN.out.1.lt
 have hz1 := hm1.size
 have hap1 : ∀ k, FN k → ¬ F1 k := fun k hk e => (hF1 k e).elim (HN.out.2 k hk) (fun e2 => by have := hFNlt k hk; omega)
 have H1 := Lib.hid (And.intro ho1 (And.intro hro1 (And.intro hF1 (And.intro hm1 (And.intro hnt1 hap1)))))
 have HS0 : Hid (PuS w1 tp n L A FN 0 w1) := Lib.hid ⟨⟨FN, hnt1, fun _ e => .inl e⟩, Mod.refl _ _⟩
 have hpFN : ¬ FN p := fun e => hap1 p e hFp1
 have HP := Lib.hid hpFN
 clear ho1 hro1 hF1 hm1 hnt1 hap1 HS hFp1 b1 hpFN hFNlt b0
 go_wp2_with fail
 go_loopw [13] (fun i wr => ∃ j : Nat, j ≤ m ∧ i = .int .i64 j ∧ PuS w1 tp n L A FN j wr) (fun i _ => m - (intOf i).toNat)
 case atStart => exact ⟨0, by omega, rfl, HS0.out⟩
 case round =>
  obtain ⟨j, hj, rfl, hs⟩ := hrel
  obtain ⟨wo, hwo⟩ : ∃ x : World, x = wr := ⟨_, rfl⟩
  subst hwo
  have HSJ := Lib.hid hs
  clear hs
  obtain ⟨ho1, hro1, hF1, hm1, hnt1, hap1⟩ := H1.out
  have hrow : ∀ k, (Value.slice a m c).ownBlock = some k → ¬ FN k := fun k hk e => by have := (ho1.lt k hk).1; have := HN.out.1.lt k e; omega
  have hrd := (Rd.ofOwn ho1).keep HSJ.out.md (fun k hk e => hrow k hk e)
  have hroj := hro1.keep HSJ.out.md (fun k hk e => hap1 k e hk)
  obtain ⟨_, q2, b0, _⟩ := hroj.cells
  have HROJ := Lib.hid hroj
  have HROW := Lib.hid hrow
  clear hro1 hF1 hm1 hnt1 hap1 ho1 hroj hrow
  by_cases hlt : j < m
  case pos =>
   have z0 : decide ((j : Int) < (m : Int)) = true := by simp; omega
   have hkl : j < A.length := by rw [HM.out]; exact hlt
   obtain ⟨eb, eo, hpe, e0, e1, e2, e3⟩ := rd4 hrd j hkl
   obtain ⟨y, hy⟩ : ∃ y, A[j] = y := ⟨_, rfl⟩
   rw [hy] at e0 e1 e2 e3
   obtain ⟨yf, yt, yw, ym⟩ := y
   simp only at e0 e1 e2 e3
   have hix := fun wx => run_indexS (P := Tryz.prog) wx 34 50 iA 4 Tryz.underlying34 hiA hsA a m c j hlt (hrd.some_ (by omega))
   rw [hpe] at hix
   have HY := Lib.hid hy
   clear hpe hy hrd
   go_upto_region 5 with fail
   obtain ⟨g, hg⟩ : ∃ y, wo.heap.size = y := ⟨_, rfl⟩
   obtain ⟨w5, hw5⟩ : ∃ y, wo.alloc (.cells #[.int .i64 yf, .int .i64 yt, .int .i64 yw, .int .i64 ym] 50) = y := ⟨_, rfl⟩
   have hg5 : Blk w5 g 50 [.int .i64 yf, .int .i64 yt, .int .i64 yw, .int .i64 ym] := by rw [← hw5, ← hg]; exact Blk.new wo 50 [.int .i64 yf, .int .i64 yt, .int .i64 yw, .int .i64 ym]
   have hm5 : Mod (fun _ => False) wo w5 := by rw [← hw5]; exact Mod.alloc _ _ _
   replace b0 := hm5.cell b0 (fun e => e)
   (try rw [hw5])
   (try rw [hg])
   have g0 := hg5.cell 0 rfl
   have g1 := hg5.cell 1 rfl
   have g2 := hg5.cell 2 rfl
   have g3 := hg5.cell 3 rfl
   obtain ⟨F', hnt', hF'⟩ := HSJ.out.nt
   have HPUT : Hid (∀ W, Mod (fun _ => False) w5 W → Calls Tryz.prog 58 #[.pointer (some ⟨tp, 0, none⟩), .agg #[.int .i64 yf, .int .i64 yt, .int .i64 yw, .int .i64 ym]] W fun e w' => (∃ r, e = .returned (.bool r)) ∧ PuS w1 tp n L A FN (j + 1) w') := Lib.hid fun W hW =>
    (nt_put (hnt'.later (hm5.of2 hW)) yf yt yw ym).mono fun e w' h => ⟨⟨_, h.1⟩, (HSJ.out.later (hm5.of2 hW)).put hF' hkl (by rw [HY.out]; exact h.2)⟩
   clear hnt' hF' hg5 hm5 hw5 hg e0 e1 e2 e3 hix
   go_region_law (go_simp; go_at_call 58; refine (HPUT.out _ (Mod.drew _ _)).mono ?_; rintro e w6 ⟨⟨r6, rfl⟩, h6⟩; have H6 := Lib.hid h6; clear h6)
   all_goals
    (try go_wp2_with fail)
    go_roundw
    case rel => exact ⟨j + 1, hlt, by go_num, H6.out⟩
    case measure => simp [intOf]; omega
  case neg =>
   obtain rfl : j = m := by omega
   have z0 : decide ((j : Int) < (j : Int)) = false := by simp
   obtain ⟨F', hnt', hF'⟩ := HSJ.out.nt
   rw [List.take_of_length_le (Nat.le_of_eq HM.out)] at hnt'
   have HCU := Lib.hid (nt_cut hnt' (v : Int))
   have HF' := Lib.hid hF'
   have HNT' := Lib.hid hnt'
   clear hnt' hF' hrd
   go_wp2_with fail
   refine HCU.out.mono ?_
   rintro e w6 ⟨rfl, F6, hnt6, hF6, hm6⟩
   obtain ⟨ho1, hro1, hF1, hm1, hnt1, hap1⟩ := H1.out
   have hlt1 := hro1.lt
   have hzj := HSJ.out.md.size
   have hFj : ∀ k, F1 k → ¬ F' k := fun k hk e => (HF'.out k e).elim (fun e2 => hap1 k e2 hk) (fun e2 => by have := hlt1 k hk; omega)
   have hro6 := HROJ.out.keep hm6 (fun k hk e => hFj k hk e)
   have hcutR : cutR n (A.foldl (putR n) L) (v : Int) = takeR n D L v := by
    unfold cutR takeR
    rw [if_pos ⟨by omega, by omega⟩, HA.out]
   rw [hcutR] at hnt6
   have hFG := Lib.hid (forget_any hro6 v HD.out.1 HD.out.2 (fun fr wo hwo => taken_net HN.out.1.ok D hwo))
   have H6 := Lib.hid (And.intro hnt6 (And.intro hF6 hm6))
   have HLT := Lib.hid (And.intro hlt1 hFj)
   clear ho1 hro1 hF1 hm1 hnt1 hap1 hro6 hnt6 hF6 hm6 hlt1 hFj hcutR HCU
   go_wp2_with fail
   refine hFG.out.mono ?_
   rintro e w7 ⟨rfl, ⟨F7, hro7, hF7⟩, hm7⟩
   have H7 := Lib.hid (And.intro hro7 (And.intro hF7 hm7))
   clear hro7 hF7 hm7 hFG
   go_wp2_with fail
   go_ret
   obtain ⟨ho1, hro1, hF1, hm1, hnt1, hap1⟩ := H1.out
   obtain ⟨hnt6, hF6, hm6⟩ := H6.out
   obtain ⟨hro7, hF7, hm7⟩ := H7.out
   have hz6 := hm6.size
   have hz1 := hm1.size
   have hFN6 : ∀ k, F6 k → ¬ F1 k := fun k hk e => (hF6 k hk).elim (fun e2 => HLT.out.2 k e e2) (fun e2 => by have := HLT.out.1 k e; omega)
   have hw6 : ∀ k, F' k → FN k ∨ w1.heap.size ≤ k := HF'.out
   have hmA : Mod FN w1 w6 := HSJ.out.md.trans hm6 (fun _ _ e => e) (fun k hk e => (hw6 k e).elim id (fun e2 => by omega))
   have hmB : Mod (fun k => F1 k ∨ FN k) w1 w7 := hmA.trans hm7 (fun _ _ e => .inr e) (fun _ _ e => .inl e)
   have hmC : Mod (fun k => F k ∨ FN k) w w7 := hm1.trans hmB (fun _ _ e => .inl e) (fun k hk e => e.elim (fun e => (hF1 k e).elim .inl (fun e2 => by omega)) .inr)
   refine ⟨a, c, by rw [HM.out]; rfl, ?_, F7, F6, hro7, hnt6.keep hm7 (fun k hk e => hFN6 k hk e), fun k hk => hF1 k (hF7 k hk), fun k hk => (hF6 k hk).elim (fun e => (hw6 k e).imp id (fun e2 => by omega)) (fun e => .inr (by omega)), fun k hk e => hFN6 k hk (hF7 k e), hmC⟩
   rw [HM.out]
   refine Own.keep ho1 hmB (fun k hk e => e.elim (fun e => ?_) (fun e => HROW.out k hk e))
   exact hro1.notT (BlT.own ho1 hk) (by decide) (by decide) (by decide) e
end Go.Proofs.YtjjedebjbgpimaaGreat
namespace Go.Proofs.YtjjedebjbgpimaaGreat
open Go.RowKit Mile
set_option maxRecDepth 100000
attribute [local go_sem] Oper.semAt_some
def NoMap (w : World) (b : Nat) : Prop := w.heap[b]? = some (.map #[] 0)
theorem NoMap.lt {w : World} {b : Nat} (h : NoMap w b) : b < w.heap.size := by
 rcases Nat.lt_or_ge b w.heap.size with h2 | h2
 ·
  exact h2
 ·
  have h3 : w.heap[b]? = none := Array.getElem?_eq_none h2
  rw [NoMap, h3] at h; cases h
theorem NoMap.keep {w w' : World} {b : Nat} {G : Nat → Prop} (h : NoMap w b) (hm : Mod G w w') (hG : ¬ G b) : NoMap w' b := (hm.block b h.lt hG).trans h
theorem NoMap.not {w : World} {b k : Nat} {T : TypeId} (h : NoMap w b) (hk : BlT w k T) : b ≠ k := fun e => by
 obtain ⟨cur, fz, h2⟩ := hk
 rw [NoMap, e, h2] at h
 cases h
def WmP (w : World) (e : Ending) (w' : World) : Prop := ∃ b, e = .returned (.map (some b)) ∧ w.heap.size ≤ b ∧ NoMap w' b ∧ Mod (fun _ => False) w w'
set_option maxHeartbeats 4000000 in
theorem withMid_any (w : World) (a : Option Addr) (n c : Nat) (A : List Ar) (hn : A.length = n) (hr : Rd w 4 (.slice a n c) n (A.flatMap c4)) (hb : n ≤ 1000000) (hA : ∀ x ∈ A, x.m < 0) :
  Calls Tryz.prog 54 #[.slice a n c] w (WmP w) := by
 obtain ⟨iA, hiA, hzA, hsA, hbA⟩ := info_parts Nt.infoA
 have HN := Lib.hid hn
 have HR := Lib.hid hr
 have HA := Lib.hid hA
 have hm1 : Mod (fun _ => False) w (w.alloc (.map #[] 0)) := Mod.alloc _ _ _
 have hv1 : NoMap (w.alloc (.map #[] 0)) w.heap.size := heap_alloc_new _ _
 have HM1 := Lib.hid (And.intro hm1 hv1)
 have hmm := @run_makeMap Tryz.prog
 clear hn hr hA hm1 hv1
 go_enter Tryz.func54, Tryz.ntmps54
 go_wp2_with fail
 obtain ⟨b, hbb⟩ : ∃ y, w.heap.size = y := ⟨_, rfl⟩
 rw [hbb]
 have HBB := Lib.hid hbb
 clear hbb hmm
 go_loopw [9] (fun i wr => ∃ k : Nat, k ≤ n ∧ i = .int .i64 k ∧ Mod (fun _ => False) w wr ∧ NoMap wr b) (fun i _ => n - (intOf i).toNat)
 case atStart => exact ⟨0, by omega, rfl, HM1.out.1, by rw [← HBB.out]; exact HM1.out.2⟩
 case round =>
  obtain ⟨k, hk, rfl, hm, hmap⟩ := hrel
  obtain ⟨wo, hwo⟩ : ∃ x : World, x = wr := ⟨_, rfl⟩
  subst hwo
  by_cases hlt : k < n
  ·
   have z0 : decide ((k : Int) < (n : Int)) = true := by simp; omega
   have hkl : k < A.length := by rw [HN.out]; exact hlt
   have hrd := HR.out.keep hm (fun _ _ e => e)
   obtain ⟨eb, eo, hpl, e0, e1, e2, e3⟩ := rd4 hrd k hkl
   have hix := fun wx => run_indexS (P := Tryz.prog) wx 34 50 iA 4 Tryz.underlying34 hiA hsA a n c k hlt (hrd.some_ (by omega))
   rw [hpl] at hix
   have hmn := HA.out A[k] (List.getElem_mem hkl)
   obtain ⟨x, hx⟩ : ∃ x, A[k] = x := ⟨_, rfl⟩
   rw [hx] at e0 e1 e2 e3 hmn
   obtain ⟨x1, x2, x3, x4⟩ := x
   simp only at e0 e1 e2 e3 hmn
   have z1 : decide (0 ≤ x4) = false := by simp; omega
   have hma : Mod (fun _ => False) wo (wo.alloc (.cells #[.int .i64 x1, .int .i64 x2, .int .i64 x3, .int .i64 x4] 50)) := Mod.alloc _ _ _
   have HS := Lib.hid (And.intro (hm.of2 hma) (hmap.keep hma (fun e => e)))
   clear hx hpl hmap hm hma hrd hmn
   go_wp2_with fail
   go_roundw
   case rel => exact ⟨k + 1, hlt, by go_num, HS.out.1, HS.out.2⟩
   case measure => simp [intOf]; omega
  ·
   have z0 : decide ((k : Int) < (n : Int)) = false := by simp; omega
   have hE := Lib.hid (And.intro hm hmap)
   clear hm hmap
   go_wp2_with fail
   go_ret
   exact ⟨b, rfl, by rw [HBB.out]; exact Nat.le_refl _, hE.out.2, hE.out.1⟩
structure LvM (w : World) (p tl rd mb n : Nat) (T : List Ar) (V : List Nat) (FT : Nat → Prop) : Prop where
 blk : Blk w p 43 [.pointer (some ⟨tl, 0, none⟩), .slice (some ⟨rd, 0, none⟩) n n, .map (some mb)]
 net : NT w tl n T FT
 row : w.ownsRow 0 3 1 (.slice (some ⟨rd, 0, none⟩) n n) n ((rkL n V).map (Value.int .i64))
 map : NoMap w mb
 rlt : rd < w.heap.size
def lvF (p rd mb : Nat) (FT : Nat → Prop) : Nat → Prop := fun k => k = p ∨ k = rd ∨ k = mb ∨ FT k
theorem own_blk {w : World} {b rd c : Nat} {T : TypeId} {xs : List Value} {m k : Nat} (h : w.ownsRow b T 1 (.slice (some ⟨rd, 0, none⟩) m c) m xs) (hk : (Value.slice (some ⟨rd, 0, none⟩) m c).ownBlock = some k) : k = rd := by
 cases hk' : decide (c = 0) with
 | true =>
  have : c = 0 := of_decide_eq_true hk'
  subst this
  simp [Value.ownBlock] at hk
  try omega
 | false =>
  simp [Value.ownBlock] at hk
  omega
theorem LvM.keep {w w' : World} {p tl rd mb n : Nat} {T : List Ar} {V : List Nat} {FT G : Nat → Prop} (h : LvM w p tl rd mb n T V FT) (hm : Mod G w w') (hG : ∀ k, lvF p rd mb FT k → ¬ G k) : LvM w' p tl rd mb n T V FT :=
 ⟨h.blk.keep hm (hG p (.inl rfl)), h.net.keep hm (fun k hk => hG k (.inr (.inr (.inr hk)))), Own.keep h.row hm (fun k hk e => hG k (.inr (.inl (own_blk h.row hk))) e), h.map.keep hm (hG mb (.inr (.inr (.inl rfl)))), by have := hm.size; have := h.rlt; omega⟩
def LO (w : World) (p n : Nat) (T : List Ar) (V : List Nat) (F : Nat → Prop) : Prop := ∃ tl rd mb FT, LvM w p tl rd mb n T V FT ∧ F = lvF p rd mb FT
theorem LO.keep {w w' : World} {p n : Nat} {T : List Ar} {V : List Nat} {F G : Nat → Prop} (h : LO w p n T V F) (hm : Mod G w w') (hG : ∀ k, F k → ¬ G k) : LO w' p n T V F := by
 obtain ⟨tl, rd, mb, FT, h1, rfl⟩ := h
 exact ⟨tl, rd, mb, FT, h1.keep hm hG, rfl⟩
theorem LO.lt {w : World} {p n : Nat} {T : List Ar} {V : List Nat} {F : Nat → Prop} (h : LO w p n T V F) : ∀ k, F k → k < w.heap.size := by
 obtain ⟨tl, rd, mb, FT, h1, rfl⟩ := h
 rintro k (rfl | rfl | rfl | hk)
 ·
  exact h1.blk.lt
 ·
  exact h1.rlt
 ·
  exact h1.map.lt
 ·
  exact h1.net.lt k hk
theorem LO.later {w w' : World} {p n : Nat} {T : List Ar} {V : List Nat} {F : Nat → Prop} (h : LO w p n T V F) (hm : Mod (fun _ => False) w w') : LO w' p n T V F := h.keep hm (fun _ _ e => e)
structure BI (w0 : World) (n pl tl rd mb pr tc gd : Nat) (C T : List Ar) (V : List Nat) (D : Nat → Int → List Int) (F FC FT : Nat → Prop) (W : World) : Prop where
 ro : RO W pr tc n C D F
 nc : NT W tc n C FC
 lv : LvM W pl tl rd mb n T V FT
 gr : W.ownsRow 0 4 1 (.slice (some ⟨gd, 0, none⟩) n n) n ((dnL n V).map Value.bool)
 gl : gd < W.heap.size ∧ rd < W.heap.size
 a1 : ∀ k, FC k → ¬ F k
 a2 : ∀ k, FT k → ¬ F k
 a3 : ∀ k, FT k → ¬ FC k
 a4 : ∀ k, (k = pl ∨ k = rd ∨ k = gd ∨ k = mb) → ¬ F k ∧ ¬ FC k ∧ ¬ FT k
 a5 : pl ≠ rd ∧ pl ≠ gd ∧ pl ≠ mb ∧ rd ≠ gd ∧ rd ≠ mb ∧ gd ≠ mb
 low : ∀ k, (F k ∨ FC k ∨ FT k ∨ k = pl ∨ k = rd ∨ k = gd ∨ k = mb) → w0.heap.size ≤ k
 md : Mod (fun _ => False) w0 W
section
variable {w0 W W' : World} {n pl tl rd mb pr tc gd : Nat} {C C' T : List Ar} {V : List Nat} {D D' : Nat → Int → List Int} {F FC FT F' FC' : Nat → Prop}
theorem BI.later (h : BI w0 n pl tl rd mb pr tc gd C T V D F FC FT W) (hm : Mod (fun _ => False) W W') : BI w0 n pl tl rd mb pr tc gd C T V D F FC FT W' :=
 ⟨h.ro.later hm, h.nc.later hm, h.lv.keep hm (fun _ _ e => e), Own.keep h.gr hm (fun _ _ e => e), ⟨by have := hm.size; have := h.gl; omega, by have := hm.size; have := h.gl; omega⟩, h.a1, h.a2, h.a3, h.a4, h.a5, h.low, h.md.of2 hm⟩
theorem BI.lvlt (h : BI w0 n pl tl rd mb pr tc gd C T V D F FC FT W) : ∀ k, (k = pl ∨ k = rd ∨ k = gd ∨ k = mb) → k < W.heap.size := by
 rintro k (rfl | rfl | rfl | rfl)
 ·
  exact h.lv.blk.lt
 ·
  exact h.gl.2
 ·
  exact h.gl.1
 ·
  exact h.lv.map.lt
theorem BI.turn (h : BI w0 n pl tl rd mb pr tc gd C T V D F FC FT W) (hro : RO W' pr tc n C' D' F') (hnc : NT W' tc n C' FC') (hF : ∀ k, F' k → F k ∨ W.heap.size ≤ k) (hFC : ∀ k, FC' k → FC k ∨ W.heap.size ≤ k) (hap : ∀ k, FC' k → ¬ F' k) (hm : Mod (fun k => F k ∨ FC k) W W') :
  BI w0 n pl tl rd mb pr tc gd C' T V D' F' FC' FT W' := by
 have hl := h.lvlt
 have hTl := h.lv.net.lt
 have hz := h.md.size
 have hnot : ∀ k, lvF pl rd mb FT k → ¬ (F k ∨ FC k) := by
  rintro k (rfl | rfl | rfl | hk) e
  ·
   have := h.a4 k (.inl rfl); exact e.elim this.1 this.2.1
  ·
   have := h.a4 k (.inr (.inl rfl)); exact e.elim this.1 this.2.1
  ·
   have := h.a4 k (.inr (.inr (.inr rfl))); exact e.elim this.1 this.2.1
  ·
   exact e.elim (h.a2 k hk) (h.a3 k hk)
 refine ⟨hro, hnc, h.lv.keep hm hnot, Own.keep h.gr hm (fun k hk e => ?_), ⟨by have := hm.size; have := h.gl; omega, by have := hm.size; have := h.gl; omega⟩, hap, fun k hk e => ?_, fun k hk e => ?_, fun k hk => ?_, h.a5, fun k hk => ?_, h.md.trans hm (fun _ _ e => e) (fun k hk e => ?_)⟩
 ·
  have := own_blk h.gr hk
  have h4 := h.a4 k (.inr (.inr (.inl this)))
  exact e.elim h4.1 h4.2.1
 ·
  exact (hF k e).elim (h.a2 k hk) (fun e2 => by have := hTl k hk; omega)
 ·
  exact (hFC k e).elim (h.a3 k hk) (fun e2 => by have := hTl k hk; omega)
 ·
  have h4 := h.a4 k hk
  have h5 := hl k hk
  exact ⟨fun e => (hF k e).elim h4.1 (fun e2 => by omega), fun e => (hFC k e).elim h4.2.1 (fun e2 => by omega), h4.2.2⟩
 ·
  rcases hk with hk | hk | hk | hk
  ·
   exact (hF k hk).elim (fun e => h.low k (.inl e)) (fun e => by omega)
  ·
   exact (hFC k hk).elim (fun e => h.low k (.inr (.inl e))) (fun e => by omega)
  ·
   exact h.low k (.inr (.inr (.inl hk)))
  ·
   exact h.low k (.inr (.inr (.inr hk)))
 ·
  have := h.low k (e.elim .inl (fun e => .inr (.inl e)))
  omega
theorem BI.put (h : BI w0 n pl tl rd mb pr tc gd C T V D F FC FT W) {T' : List Ar} {FT' : Nat → Prop} (h1 : NT W' tl n T' FT') (h2 : ∀ k, FT' k → FT k ∨ W.heap.size ≤ k) (h3 : Mod FT W W') : BI w0 n pl tl rd mb pr tc gd C T' V D F FC FT' W' := by
 have hl := h.lvlt
 have hz := h.md.size
 have hFl := h.ro.lt
 have hCl := h.nc.lt
 refine ⟨h.ro.keep h3 (fun k hk e => h.a2 k e hk), h.nc.keep h3 (fun k hk e => h.a3 k e hk), ⟨h.lv.blk.keep h3 (h.a4 pl (.inl rfl)).2.2, h1, Own.keep h.lv.row h3 (fun k hk e => ?_), h.lv.map.keep h3 (h.a4 mb (.inr (.inr (.inr rfl)))).2.2, by have := h3.size; have := h.gl; omega⟩, Own.keep h.gr h3 (fun k hk e => ?_), ⟨by have := h3.size; have := h.gl; omega, by have := h3.size; have := h.gl; omega⟩, h.a1, fun k hk e => ?_, fun k hk e => ?_, fun k hk => ?_, h.a5, fun k hk => ?_, h.md.trans h3 (fun _ _ e => e) (fun k hk e => ?_)⟩
 ·
  have := own_blk h.lv.row hk
  exact (h.a4 k (.inr (.inl this))).2.2 e
 ·
  have := own_blk h.gr hk
  exact (h.a4 k (.inr (.inr (.inl this)))).2.2 e
 ·
  exact (h2 k hk).elim (fun e2 => h.a2 k e2 e) (fun e2 => by have := hFl k e; omega)
 ·
  exact (h2 k hk).elim (fun e2 => h.a3 k e2 e) (fun e2 => by have := hCl k e; omega)
 ·
  have h4 := h.a4 k hk
  have h5 := hl k hk
  exact ⟨h4.1, h4.2.1, fun e => (h2 k e).elim h4.2.2 (fun e2 => by omega)⟩
 ·
  rcases hk with hk | hk | hk | hk
  ·
   exact h.low k (.inl hk)
  ·
   exact h.low k (.inr (.inl hk))
  ·
   exact (h2 k hk).elim (fun e => h.low k (.inr (.inr (.inl e)))) (fun e => by omega)
  ·
   exact h.low k (.inr (.inr (.inr hk)))
 ·
  have := h.low k (.inr (.inr (.inl e)))
  omega
theorem BI.mark (h : BI w0 n pl tl rd mb pr tc gd C T V D F FC FT W) {v : Nat} (hv : v < n) (hvV : v ∉ V) : BI w0 n pl tl rd mb pr tc gd C T (V ++ [v]) D F FC FT ((W.setCell ⟨rd, v, none⟩ (.int .i64 ((V.length : Nat) : Int))).setCell ⟨gd, v, none⟩ (.bool true)) := by
 have hm1 : Mod (fun k => k = rd) W (W.setCell ⟨rd, v, none⟩ (.int .i64 ((V.length : Nat) : Int))) := Mod.setCell _ _ _ rfl
 have hm2 : Mod (fun k => k = gd) (W.setCell ⟨rd, v, none⟩ (.int .i64 ((V.length : Nat) : Int))) ((W.setCell ⟨rd, v, none⟩ (.int .i64 ((V.length : Nat) : Int))).setCell ⟨gd, v, none⟩ (.bool true)) := Mod.setCell _ _ _ rfl
 have hm : Mod (fun k => k = rd ∨ k = gd) W ((W.setCell ⟨rd, v, none⟩ (.int .i64 ((V.length : Nat) : Int))).setCell ⟨gd, v, none⟩ (.bool true)) := hm1.trans hm2 (fun _ _ e => .inl e) (fun _ _ e => .inr e)
 have hz := h.md.size
 have hr1 := (h.lv.row.stored v (.int .i64 ((V.length : Nat) : Int))).1
 rw [← List.map_set, rkL_set hvV] at hr1
 have hg1 := Own.keep h.gr hm1 (fun k hk e => by have := own_blk h.gr hk; have e2 : k = rd := e; have := h.a5; omega)
 have hg2 := (hg1.stored v (.bool true)).1
 rw [← List.map_set, dnL_set] at hg2
 have h4r := h.a4 rd (.inr (.inl rfl))
 have h4g := h.a4 gd (.inr (.inr (.inl rfl)))
 refine ⟨h.ro.keep hm (fun k hk e => e.elim (fun e => h4r.1 (e ▸ hk)) (fun e => h4g.1 (e ▸ hk))), h.nc.keep hm (fun k hk e => e.elim (fun e => h4r.2.1 (e ▸ hk)) (fun e => h4g.2.1 (e ▸ hk))), ⟨h.lv.blk.keep hm (fun e => by have := h.a5; omega), h.lv.net.keep hm (fun k hk e => e.elim (fun e => h4r.2.2 (e ▸ hk)) (fun e => h4g.2.2 (e ▸ hk))), Own.keep hr1 hm2 (fun k hk e => ?_), h.lv.map.keep hm (fun e => by have := h.a5; omega), by have := hm.size; have := h.gl; omega⟩, hg2, ⟨by have := hm.size; have := h.gl; omega, by have := hm.size; have := h.gl; omega⟩, h.a1, h.a2, h.a3, h.a4, h.a5, h.low, h.md.trans hm (fun _ _ e => e) (fun k hk e => ?_)⟩
 ·
  have := own_blk hr1 hk
  have e2 : k = gd := e
  have := h.a5
  omega
 ·
  have := h.low k (e.elim (fun e => .inr (.inr (.inr (.inr (.inl e))))) (fun e => .inr (.inr (.inr (.inr (.inr (.inl e)))))))
  omega
end
end Go.Proofs.YtjjedebjbgpimaaGreat
