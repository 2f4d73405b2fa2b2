/- detour's side: the object; reach. -/
import Derived.Test.YtbjdjafkpldbnaaKHX
import Derived.Test.YtbjdjafkpldbnaaKBid
import Derived.Test.YtbjdjafkpldbnaaKDist
import Derived.Test.YtbjdjafkpldbnaaKReg
import Derived.Deep.DeepCutAuto
import Derived.Deep.CutBlock
namespace Go.Proofs.Ytbjdjafkpldbnaa
open Go.RowKit Mile
set_option maxRecDepth 100000
attribute [local go_sem] Oper.semAt_some
def lessF (ds : List Int) (e : Nat) (k : Int) : Bool := decide (dAt ds e = -1) || decide (k < dAt ds e)
theorem lessF_eq {ds : List Int} {e : Nat} {k : Int} (he : e < ds.length) (hk : k ≤ bigM) : lessB (farP ds) (-1) bigM e k = lessF ds e k := by
  unfold lessB lessF
  rw [dP_far ds e he, decide_eq_true hk, decide_eq_true (show (e : Int) ≠ -1 by omega)]
  simp only [Bool.and_true]
  congr 1
  · by_cases h : dAt ds e = -1
    · rw [decide_eq_true h, decide_eq_true (by omega)]
    · rw [decide_eq_false h, decide_eq_false (by omega)]
  · by_cases h : k < dAt ds e
    · rw [decide_eq_true h, decide_eq_true (by omega)]
    · rw [decide_eq_false h, decide_eq_false (by omega)]
/-- An edge is looked at. -/
theorem Sde.reach {X : Web} {d : List Int} {T : List Nat} {ds : List Int} {S : List It} {c : Int} {pend pend' : Nat → Nat → Prop} (h : Sde X d T ds S c pend) (hf : Fix X d) (htop : ∀ e, dAt d e ≤ 33553920) (hid : Ids S) {e b : Nat} (hr : X.rl e b) (hb : b ∈ T)
    (hp : ∀ e' b', pend e' b' → pend' e' b' ∨ (e' = e ∧ b' = b)) (k : Int) (hk : k = dAt d b + X.wt e b) : Sde X d T (if lessF ds e k then ds.set e k else ds) (if lessF ds e k then (pushS S e k).2 else S) c pend' := by
  have hm := X.one e b hr
  have hl : e < ds.length := by rw [h.len]; exact hm.2.2.1
  have h1 := htop b
  have h2 := reach_step (n := X.m) rfl h.i h.o hf htop hid hr (wo := -1) (by omega) hb hp k hk
  rw [lessF_eq hl (by unfold bigM; omega)] at h2
  refine ⟨h2.1, ?_, h.cs, h.c0, h.cl⟩
  have h3 := h2.2
  cases hlf : lessF ds e k with
  | false => rw [hlf] at h3; exact h3
  | true => rw [hlf] at h3; simp only [if_true] at h3 ⊢; rw [farP_set]; exact h3
/-- The nearest one is settled. -/
theorem Sde.pop {X : Web} {d : List Int} {T : List Nat} {ds : List Int} {y : It} {S : List It} {c : Int} (h : Sde X d T ds (y :: S) c (fun _ _ => False)) (hf : Fix X d) (hs : Srt (y :: S)) (hid : Ids (y :: S)) :
    ∃ x : Nat, y.1 = (x : Int) ∧ x < X.m ∧ x ∉ T ∧ 0 ≤ dAt d x ∧ y.2 = dAt d x ∧ Sde X d (T ++ [x]) ds S (dAt d x) (fun _ b => b = x) := by
  obtain ⟨v, hv, hvn, hvT, h0v, hxe, hord⟩ := h.o.pop hf hs hid
  refine ⟨v, hv, hvn, hvT, h0v, hxe, ⟨hord, h.i.pop hv hxe hvT hid, fun t ht => ?_, h0v, .inr ⟨v, by simp, rfl⟩⟩⟩
  rcases List.mem_append.1 ht with h1 | h1
  · have := h.o.low t h1 v hvT h0v
    unfold ahead at this
    omega
  · rw [List.mem_singleton] at h1; rw [h1]; exact Int.le_refl _
/-- A side at block p: its row at rb, its heap, whose blocks are F, all made since. -/
structure SdO (w : World) (B0 p rb m : Nat) (ds : List Int) (S : List It) (c : Int) (g : Value) (F : Nat → Prop) : Prop where
  hp : SH.HpO w p (.slice (some ⟨rb, 0, none⟩) m m, .int .i64 c, g) S F
  row : Blk w rb 3 (ds.map (Value.int .i64))
  ap : ¬ F rb
  len : ds.length = m
  lo : (∀ k, F k → B0 ≤ k) ∧ B0 ≤ rb
def sdF (F : Nat → Prop) (rb : Nat) : Nat → Prop := fun k => F k ∨ k = rb
section
variable {w w' : World} {B0 p rb m : Nat} {ds : List Int} {S : List It} {c : Int} {g : Value} {F G : Nat → Prop}
theorem SdO.keep (h : SdO w B0 p rb m ds S c g F) (hm : Mod G w w') (hG : ∀ k, sdF F rb k → ¬ G k) : SdO w' B0 p rb m ds S c g F :=
  ⟨h.hp.keep hm (fun k hk => hG k (.inl hk)), h.row.keep hm (hG rb (.inr rfl)), h.ap, h.len, h.lo⟩
theorem SdO.later (h : SdO w B0 p rb m ds S c g F) (hm : Mod (fun _ => False) w w') : SdO w' B0 p rb m ds S c g F := h.keep hm (fun _ _ e => e)
theorem SdO.lt (h : SdO w B0 p rb m ds S c g F) : ∀ k, sdF F rb k → k < w.heap.size := fun k hk => hk.elim (h.hp.lt k) (fun e => by rw [e]; exact h.row.lt)
theorem SdO.blk (h : SdO w B0 p rb m ds S c g F) : ∃ v mb, Blk w p 65 [.slice (some ⟨rb, 0, none⟩) m m, v, .map mb, .int .i64 c, g] := by
  obtain ⟨v, l, mb, f, h1, _⟩ := h.hp; exact ⟨v, mb, h1.blk⟩
theorem SdO.ids (h : SdO w B0 p rb m ds S c g F) : Srt S ∧ Ids S := ⟨h.hp.ok.1, h.hp.ok.2.1⟩
theorem SdO.self (h : SdO w B0 p rb m ds S c g F) : F p := h.hp.self
theorem SdO.cell (h : SdO w B0 p rb m ds S c g F) {e : Nat} (he : e < m) : w.cell? ⟨rb, e, none⟩ = some (.int .i64 (dAt ds e)) := by
  have hl : e < ds.length := by rw [h.len]; exact he
  refine h.row.cell e ?_
  rw [List.getElem?_map, List.getElem?_eq_getElem hl, dAt_eq ds e hl]; rfl
theorem SdO.setRow (h : SdO w B0 p rb m ds S c g F) {e : Nat} (k : Int) : SdO (w.setCell ⟨rb, e, none⟩ (.int .i64 k)) B0 p rb m (ds.set e k) S c g F := by
  have hm : Mod (fun j => j = rb) w (w.setCell ⟨rb, e, none⟩ (.int .i64 k)) := Mod.setCell _ _ _ rfl
  refine ⟨h.hp.keep hm (fun j hj e => h.ap (e ▸ hj)), ?_, h.ap, by rw [List.length_set]; exact h.len, h.lo⟩
  rw [List.map_set]
  exact h.row.set e _
theorem SdO.setC (h : SdO w B0 p rb m ds S c g F) (k : Int) : SdO (w.setCell ⟨p, 3, none⟩ (.int .i64 k)) B0 p rb m ds S k g F := by
  have hm : Mod (fun j => j = p) w (w.setCell ⟨p, 3, none⟩ (.int .i64 k)) := Mod.setCell _ _ _ rfl
  have hprb : rb ≠ p := fun e => h.ap (by rw [e]; exact h.self)
  refine ⟨?_, h.row.keep hm hprb, h.ap, h.len, h.lo⟩
  obtain ⟨v, l, mb, f, h1, rest⟩ := h.hp
  exact ⟨v, l, mb, f, ⟨h1.blk.set 3 _, Own.keep h1.own hm (fun j hj e => (h1.row j hj).2 e), h1.place.keep hm (fun b hb e => (h1.map b hb).2.1 e), h1.self, h1.row, h1.map, fun j hj => Nat.lt_of_lt_of_le (h1.lt j hj) hm.size, h1.ok⟩, rest⟩
end
/-- A side behind a call that turns it. -/
def SdQ (B0 p rb m : Nat) (ds : List Int) (S : List It) (c : Int) (g : Value) (F : Nat → Prop) (w w' : World) : Prop := ∃ F', SdO w' B0 p rb m ds S c g F' ∧ (∀ k, F' k → F k ∨ w.heap.size ≤ k) ∧ Mod (sdF F rb) w w'
set_option maxHeartbeats 4000000 in
theorem sreach_any (w : World) (B0 p rb m : Nat) (ds : List Int) (S : List It) (c : Int) (g : Value) (F : Nat → Prop) (h : SdO w B0 p rb m ds S c g F) (e : Nat) (he : e < m) (k : Int) (hk : 0 ≤ k ∧ k ≤ 1000000000) (hS : S.length ≤ 1000) (hm : m ≤ 100000) :
    Calls Try.prog 47 #[.pointer (some ⟨p, 0, none⟩), .int .i64 (e : Int), .int .i64 k] w fun x w' => x = .returned (.tuple #[]) ∧ SdQ B0 p rb m (if lessF ds e k then ds.set e k else ds) (if lessF ds e k then (pushS S e k).2 else S) c g F w w' := by
  obtain ⟨iI, hiI, hzI, hsI, hbI⟩ := info_parts GR.infoI
  obtain ⟨v, mb, hb⟩ := h.blk
  have c0 := hb.cell 0 rfl
  have e0 := h.cell he
  have hfr := h.row.free e
  have hlr := h.row.lt
  have hix := fun wx => run_indexS (P := Try.prog) wx 22 3 iI 1 Try.underlying22 hiI hsI (some ⟨rb, 0, none⟩) m m e he (by simp)
  rw [show elemA (some ⟨rb, 0, none⟩) e 1 = ⟨rb, e, none⟩ by simp [elemA, Addr.add_lit]] at hix
  obtain ⟨x, hx⟩ : ∃ x, dAt ds e = x := ⟨_, rfl⟩
  rw [hx] at e0
  have hset := h.setRow (e := e) k
  have hsm : Mod (fun j => j = rb) w (w.setCell ⟨rb, e, none⟩ (.int .i64 k)) := Mod.setCell _ _ _ rfl
  have hewf : (Lit.int .i64 (e : Int)).wf = true := wf_i64 _ (by omega)
  have hkwf : (Lit.int .i64 k).wf = true := wf_i64 _ (by omega)
  have HP := Lib.hid (SH.hpush_any p _ S F hset.hp (by omega) (e : Int) k hewf hkwf)
  have HS := Lib.hid (And.intro h (And.intro hset hsm))
  have hpb : p ≠ rb := fun e2 => h.ap (by rw [← e2]; exact h.self)
  have c0s : (w.setCell ⟨rb, e, none⟩ (.int .i64 k)).cell? ⟨p, 0, none⟩ = some (.slice (some ⟨rb, 0, none⟩) m m) := hsm.cell c0 hpb
  clear hb hset hsm hewf hkwf h
  have fin : ∀ (w1 : World) (F' : Nat → Prop), SH.HpO w1 p (.slice (some ⟨rb, 0, none⟩) m m, .int .i64 c, g) (pushS S e k).2 F' → Aft (w.setCell ⟨rb, e, none⟩ (.int .i64 k)) w1 F F' → SdQ B0 p rb m (ds.set e k) (pushS S e k).2 c g F w w1 := fun w1 F' hp' hA => by
    have hz : (w.setCell ⟨rb, e, none⟩ (.int .i64 k)).heap.size = w.heap.size := by simp [World.setCell]
    have hrb : ¬ F' rb := fun e2 => (hA.2 rb e2).elim HS.out.1.ap (fun e3 => by omega)
    have hB := HS.out.1.lo
    refine ⟨F', ⟨hp', HS.out.2.1.row.keep hA.1 HS.out.1.ap, hrb, HS.out.2.1.len, fun j hj => (hA.2 j hj).elim (hB.1 j) (fun e3 => by omega), hB.2⟩, fun j hj => (hA.2 j hj).imp id (fun e3 => by omega), HS.out.2.2.trans hA.1 (fun _ _ e => .inr e) (fun _ _ e => .inl e)⟩
  have HF := Lib.hid fin
  clear fin
  by_cases hx1 : x = -1
  · have hl : lessF ds e k = true := by unfold lessF; rw [hx, decide_eq_true hx1]; rfl
    rw [hl]
    subst hx1
    clear hx hl
    go_enter Try.func47, Try.ntmps47
    go_wp2_with fail
    refine HP.out.mono ?_
    rintro x w1 ⟨rfl, F', hp', hA⟩
    have HE := Lib.hid (HF.out w1 F' hp' hA)
    clear hp' hA
    go_wp2_with fail
    go_end0
    exact ⟨rfl, HE.out⟩
  · have z0 : (x == -1) = false := beq_eq_false_iff_ne.2 hx1
    by_cases hkx : k < x
    · have hl : lessF ds e k = true := by unfold lessF; rw [hx, decide_eq_true hkx, Bool.or_true]
      have z1 : decide (k < x) = true := decide_eq_true hkx
      rw [hl]
      clear hx hl hx1 hkx
      go_enter Try.func47, Try.ntmps47
      go_wp2_with fail
      refine HP.out.mono ?_
      rintro x w1 ⟨rfl, F', hp', hA⟩
      have HE := Lib.hid (HF.out w1 F' hp' hA)
      clear hp' hA
      go_wp2_with fail
      go_end0
      exact ⟨rfl, HE.out⟩
    · have hl : lessF ds e k = false := by unfold lessF; rw [hx, decide_eq_false hx1, decide_eq_false hkx]; rfl
      have z1 : decide (k < x) = false := decide_eq_false hkx
      rw [hl]
      clear hx hl hx1 hkx
      go_enter Try.func47, Try.ntmps47
      go_wp2_with fail
      go_end0
      exact ⟨rfl, F, HS.out.1, fun _ e => .inl e, Mod.refl _ _⟩
end Go.Proofs.Ytbjdjafkpldbnaa
namespace Go.Proofs.Ytbjdjafkpldbnaa
open Go.RowKit Mile
set_option maxRecDepth 100000
attribute [local go_sem] Oper.semAt_some
theorem Ord.few {X : Web} {d : List Int} {mo : Int} {T : List Nat} {S : List It} {pend : Nat → Nat → Prop} (h : Ord X d mo T S pend) (hid : Ids S) : S.length ≤ X.m := by
  have h1 : (S.map (·.1)).Nodup := hid
  have h2 : (S.map (·.1)) ⊆ (List.range X.m).map Int.ofNat := by
    intro y hy
    obtain ⟨x, hx, rfl⟩ := List.mem_map.1 hy
    obtain ⟨e, he, hm, _⟩ := h.sound x hx
    exact List.mem_map.2 ⟨e, List.mem_range.2 hm, by rw [he]; rfl⟩
  have := nodup_le _ _ h1 h2
  simpa using this
/-- What stands where the sides are: the graph, the closed ones, in the variables that a side holds. -/
structure Bx (w0 : World) (t : Nat) (a : Option Addr) (n c bt bc : Nat) (W : World) : Prop where
  m : Mod (fun _ => False) w0 W
  bt : Blk W bt 29 [.pointer (some ⟨t, 0, none⟩)]
  bc : Blk W bc 32 [.slice a n c]
theorem Bx.keep {w0 : World} {t : Nat} {a : Option Addr} {n c bt bc : Nat} {W W' : World} (h : Bx w0 t a n c bt bc W) {H : Nat → Prop} (hm : Mod H W W') (hH : ∀ k, H k → w0.heap.size ≤ k) (h1 : ¬ H bt) (h2 : ¬ H bc) : Bx w0 t a n c bt bc W' :=
  ⟨h.m.old hm hH, h.bt.keep hm h1, h.bc.keep hm h2⟩
/-- A side has gone on. -/
def GoQ (X : Web) (d : List Int) (T : List Nat) (B0 ps rb : Nat) (c : Int) (g : Value) (F : Nat → Prop) (W : World) (x : Ending) (W' : World) : Prop :=
  x = .returned (.tuple #[]) ∧ ∃ ds S, SdQ B0 ps rb X.m ds S c g F W W' ∧ Sde X d T ds S c (fun _ _ => False)
/-- What a side goes on by. -/
def GoOn (X : Web) (d : List Int) (kf : FuncId) (v1 v2 : Value) (g : Value) (B0 ps rb : Nat) (En : World → Prop) (bt bc : Nat) : Prop :=
  ∀ (W : World) (ds : List Int) (S : List It) (c : Int) (F : Nat → Prop) (T : List Nat) (k : Nat), En W → SdO W B0 ps rb X.m ds S c g F → (¬ sdF F rb bt ∧ ¬ sdF F rb bc) → Sde X d T ds S c (fun _ b => b = k) → k ∈ T → dAt d k = c →
    Calls Try.prog kf #[.pointer (some ⟨ps, 0, none⟩), .int .i64 (k : Int), .int .i64 c, v1, v2] W (GoQ X d T B0 ps rb c g F W)
set_option maxHeartbeats 16000000 in
theorem onw_any (G : GD) (hm : May G) (v : Int) (cl : List Bool) (w0 : World) (t p B C : Nat) (a : Option Addr) (n c : Nat) (hto : TO w0 t p B C G) (hn : cl.length = n) (hrd : Rd w0 1 (.slice a n c) n (cl.map Value.bool))
    (d : List Int) (hf : Fix (webFrom G hm v cl) d) (htop : ∀ e, dAt d e ≤ 33553920) (B0 ps rb : Nat) (g : Value) (hB0 : w0.heap.size ≤ B0) (bt bc : Nat) :
    GoOn (webFrom G hm v cl) d 44 (.pointer (some ⟨bt, 0, none⟩)) (.pointer (some ⟨bc, 0, none⟩)) g B0 ps rb (Bx w0 t a n c bt bc) bt bc := by
  intro W ds S cA F T k hE hS hap hD hkT hkd
  have hes : G.E.length ≤ 512 := hm.1.2.1
  have hx : (webFrom G hm v cl).m = G.E.length := rfl
  rw [hx] at hS
  have hk0 := (hD.o.t k hkT).1
  have hk : k < G.E.length := by have := dAt_in hk0; rw [hf.len] at this; exact this
  have hkt := htop k
  rw [hkd] at hk0 hkt
  obtain ⟨iI, hiI, hzI, hsI, hbI⟩ := info_parts GR.infoI
  have hBw := hE.m.size
  have hKn : ∀ wr, Mod (sdF F rb) W wr → TO wr t p B C G ∧ Rd wr 1 (.slice a n c) n (cl.map Value.bool) ∧ Blk wr bt 29 [.pointer (some ⟨t, 0, none⟩)] ∧ Blk wr bc 32 [.slice a n c] := fun wr hmr => by
    have h0 := hE.keep hmr (fun q hq => hq.elim (fun e => Nat.le_trans hB0 (hS.lo.1 q e)) (fun e => by rw [e]; exact Nat.le_trans hB0 hS.lo.2)) hap.1 hap.2
    exact ⟨hto.keep h0.m, hrd.keep h0.m (fun _ _ e => e), h0.bt, h0.bc⟩
  have HKN := Lib.hid hKn
  obtain ⟨hto1, hcl1, hb3, hb4⟩ := hKn W (Mod.refl _ _)
  have q3 := hb3.cell 0 rfl
  have q4 := hb4.cell 0 rfl
  have qt := hto1.blk.cell 0 rfl
  have HTO := Lib.hid hto1
  have HHC := Lib.hid hcl1
  have HS := Lib.hid hS
  have HD := Lib.hid hD
  have HN := Lib.hid hn
  have HF := Lib.hid hf
  have HTOP := Lib.hid htop
  have HKT := Lib.hid hkT
  have HKD := Lib.hid hkd
  have HMAY := Lib.hid hm
  clear hE hto hrd hn hS hap hD hkT hkd hKn hto1 hcl1 hb3 hb4 hB0 hf htop hx
  go_enter Try.func44, Try.ntmps44
  go_wp2_with fail
  refine (next_new t p B C G W HTO.out (k : Int)).mono ?_
  rintro e W4 ⟨vr, rfl, ⟨⟨ar, cr, rfl, hrr⟩, hnew⟩, hm4⟩
  obtain ⟨ln, hln⟩ : ∃ q, (nxtR G (k : Int)).length = q := ⟨_, rfl⟩
  rw [hln] at hrr hnew ⊢
  have hlnb : ln ≤ 512 := by rw [← hln]; exact Nat.le_trans (nxtR_len G (k : Int)) hes
  have hmW4 : Mod (sdF F rb) W W4 := hm4.mono (fun _ _ e => e.elim)
  have hS4 := HS.out.later hm4
  have hrap : ∀ q, (Value.slice ar ln cr).ownBlock = some q → ¬ F q ∧ q ≠ rb := fun q hq => by
    have h0 := hnew q hq
    have h1 := (Mod.refl (fun _ => False) W).size
    exact ⟨fun h => by have := HS.out.hp.lt q h; omega, fun h => by have := HS.out.row.lt; omega⟩
  have hD4 : Sde (webFrom G hm v cl) d T ds S cA (fun e b => b = k ∧ (e : Int) ∈ (nxtR G (k : Int)).drop 0) := HD.out.said (fun e b hr hp => ⟨hp, by rw [List.drop_zero]; have h1 : b = k := hp; have h2 := hr.1; rw [h1] at h2; exact mem_nxt h2⟩)
  have HLN := Lib.hid hln
  clear hln hnew q3 q4 qt HTO HHC
  go_wp2_with fail
  go_loopw [16] (fun i wr => ∃ (j : Nat) (ds : List Int) (S : List It) (F' : Nat → Prop), j ≤ ln ∧ i = .int .i64 j ∧ SdO wr B0 ps rb G.E.length ds S cA g F' ∧ Sde (webFrom G hm v cl) d T ds S cA (fun e b => b = k ∧ (e : Int) ∈ (nxtR G (k : Int)).drop j) ∧ (∀ q, F' q → F q ∨ W.heap.size ≤ q) ∧ Mod (sdF F rb) W wr ∧ Rd wr 1 (.slice ar ln cr) ln ((nxtR G (k : Int)).map (Value.int .i64)) ∧ (∀ q, (Value.slice ar ln cr).ownBlock = some q → ¬ F' q ∧ q ≠ rb)) (fun i _ => ln - (intOf i).toNat)
  case atStart => exact ⟨0, ds, S, F, by omega, rfl, hS4, hD4, fun _ e => .inl e, hmW4, hrr, hrap⟩
  case round =>
    clear hS4 hD4 hrr hrap hmW4 hm4
    obtain ⟨j, ds1, S1, F1, hj, rfl, hS1, hD1, hF1, hM1, hrr, hrap⟩ := hrel
    obtain ⟨wo, hwo⟩ : ∃ x : World, x = wr := ⟨_, rfl⟩
    subst hwo
    obtain ⟨hto, hcl, hb3, hb4⟩ := HKN.out wo hM1
    have q3 := hb3.cell 0 rfl
    have q4 := hb4.cell 0 rfl
    have qt := hto.blk.cell 0 rfl
    have HTO := Lib.hid hto
    have HHC := Lib.hid hcl
    have hids := hS1.ids
    have hfew := hD1.o.few hids.2
    have hsf : S1.length ≤ 1000 := by have h3 : (webFrom G hm v cl).m = G.E.length := rfl; omega
    have HS1 := Lib.hid hS1
    have HD1 := Lib.hid hD1
    have HF1 := Lib.hid hF1
    have HM1 := Lib.hid hM1
    have HRR := Lib.hid hrr
    have HRA := Lib.hid hrap
    have HID := Lib.hid hids
    clear hto hcl hb3 hb4 hS1 hD1 hF1 hM1 hrr hrap hids hfew
    by_cases hlt : j < ln
    case neg =>
      obtain rfl : j = ln := by omega
      have z0 : decide ((j : Int) < (j : Int)) = false := by simp
      go_wp2_with fail
      go_end0
      exact ⟨rfl, ds1, S1, ⟨F1, HS1.out, HF1.out, HM1.out⟩, HD1.out.said (fun e b _ hp => by have h1 := hp.2; rw [List.drop_of_length_le (by rw [HLN.out]; exact Nat.le_refl _)] at h1; cases h1)⟩
    case pos =>
      have z0 : decide ((j : Int) < (ln : Int)) = true := by simp; omega
      have hjl : j < (nxtR G (k : Int)).length := by rw [HLN.out]; exact hlt
      obtain ⟨kb, hkb, hkbe, hkt2⟩ := nxtR_at G (k : Int) j hjl
      obtain ⟨eb, eo, hpl, e0⟩ := rd1 HRR.out j hjl
      have hix := fun wx => run_indexS (P := Try.prog) wx 22 3 iI 1 Try.underlying22 hiI hsI ar ln cr j hlt (HRR.out.some_ (by omega))
      rw [hpl] at hix
      rw [hkb] at e0
      have HKB := Lib.hid hkb
      have HTR := Lib.hid hkt2
      clear hpl hkb hkt2
      obtain ⟨cb, hcb⟩ : ∃ b, clB cl (kb : Int) = b := ⟨_, rfl⟩
      have HCB := Lib.hid hcb
      go_wp2_with fail
      refine (closed_any wo a n c cl HN.out HHC.out (kb : Int)).mono ?_
      rintro e w' ⟨rfl, rfl⟩
      rw [hcb]
      clear hcb
      cases cb with
      | true =>
        go_wp2_with fail
        go_roundw
        case rel => exact ⟨j + 1, ds1, S1, F1, hlt, by go_num, HS1.out, HD1.out.said (fun e b hr hp => ⟨hp.1, by
          have h := hp.2
          rw [List.drop_eq_getElem_cons hjl] at h
          rcases List.mem_cons.1 h with h1 | h1
          · rw [HKB.out] at h1; have h2 := hr.2; have h3 : e = kb := by omega
            rw [h3, HCB.out] at h2; cases h2
          · exact h1⟩), HF1.out, HM1.out, HRR.out, HRA.out⟩
        case measure => simp [intOf]; omega
      | false =>
        obtain ⟨ex, hex⟩ : ∃ x, (eAt G (kb : Int)).1 = x := ⟨_, rfl⟩
        obtain ⟨ey, hey⟩ : ∃ x, (eAt G (kb : Int)).2.1 = x := ⟨_, rfl⟩
        obtain ⟨ez, hez⟩ : ∃ x, (eAt G (kb : Int)).2.2 = x := ⟨_, rfl⟩
        have hwz : 1 ≤ (eAt G (kb : Int)).2.2 ∧ (eAt G (kb : Int)).2.2 ≤ 65535 := edgeW G HMAY.out (kb : Int) (by omega)
        rw [hez] at hwz
        have hED := edge_ok p B C G wo HTO.out.go kb hkbe ex ey ez hex hey hez
        have HED := Lib.hid hED
        have HEZ := Lib.hid hez
        clear hED hez hex hey
        go_wp2_with fail
        refine HED.out.mono ?_
        rintro e W2 ⟨rfl, hm2⟩
        obtain ⟨b12, hb12⟩ : ∃ b, W2.heap.size = b := ⟨_, rfl⟩
        obtain ⟨W3, hW3⟩ : ∃ x, W2.alloc (.cells #[.int .i64 ex, .int .i64 ey, .int .i64 ez] 43) = x := ⟨_, rfl⟩
        have hbe : Blk W3 b12 43 [.int .i64 ex, .int .i64 ey, .int .i64 ez] := by rw [← hW3, ← hb12]; exact Blk.new W2 _ [.int .i64 ex, .int .i64 ey, .int .i64 ez]
        have hm3 : Mod (fun _ => False) wo W3 := by rw [← hW3]; exact hm2.thenAlloc _
        have hS3 := HS1.out.later hm3
        have hrr3 := HRR.out.keep hm3 (fun _ _ e => e)
        have HRR3 := Lib.hid hrr3
        have hM3 := HM1.out.trans (c := W3) hm3 (fun _ _ e => e) (fun _ _ e => e.elim)
        have HM3 := Lib.hid hM3
        have HS3 := Lib.hid hS3
        have qe2 := hbe.cell 2 rfl
        clear q3 q4 qt HTO HHC HED hrr3 hbe hS3 hM3 hm3 hm2 e0 hix
        obtain ⟨hto, hcl, hb3, hb4⟩ := HKN.out W3 HM3.out
        have q3 := hb3.cell 0 rfl
        have q4 := hb4.cell 0 rfl
        have qt := hto.blk.cell 0 rfl
        clear hto hcl hb3 hb4
        have hrl2 : (webFrom G hm v cl).rl kb k := ⟨HTR.out, HCB.out⟩
        have hrr2 := HD1.out.reach (pend' := fun e b => b = k ∧ (e : Int) ∈ (nxtR G (k : Int)).drop (j + 1)) HF.out HTOP.out HID.out.2 (e := kb) (b := k) hrl2 HKT.out (fun e' b' h => by
          rw [List.drop_eq_getElem_cons hjl] at h
          rcases List.mem_cons.1 h.2 with h1 | h1
          · rw [HKB.out] at h1; exact .inr ⟨by omega, h.1⟩
          · exact .inl ⟨h.1, h1⟩) (cA + ez) (by rw [HKD.out]; show cA + ez = cA + (eAt G (kb : Int)).2.2; rw [HEZ.out])
        have hrc := sreach_any W3 B0 ps rb G.E.length ds1 S1 cA g F1 HS3.out kb hkbe (cA + ez) (by omega) hsf (by omega)
        have HRC := Lib.hid hrc
        have HRE := Lib.hid hrr2
        clear hrc hrr2 hrl2
        go_wp2_with fail
        clear hW3 hb12
        refine HRC.out.mono ?_
        rintro e W5 ⟨rfl, F5, hS5, hA5, hm5⟩
        have hr5 := HRR3.out.keep hm5 (fun q hq e => e.elim (HRA.out q hq).1 (HRA.out q hq).2)
        have ha5 : ∀ q, (Value.slice ar ln cr).ownBlock = some q → ¬ F5 q ∧ q ≠ rb := fun q hq => ⟨fun h => (hA5 q h).elim (HRA.out q hq).1 (fun h2 => absurd (show (nxtR G (k : Int)).length = 0 from (by simpa using congrArg List.length (HRR3.out.lt hq h2))) (by omega)), (HRA.out q hq).2⟩
        have hf5 : ∀ q, F5 q → F q ∨ W.heap.size ≤ q := fun q h => (hA5 q h).elim (HF1.out q) (fun h2 => .inr (by have h3 := HM3.out.size; omega))
        have hmo : Mod (sdF F rb) W W5 := HM3.out.trans hm5 (fun _ _ e => e) (fun q hq e => e.elim (fun h => (HF1.out q h).elim .inl (fun h2 => by omega)) .inr)
        have HX5 := Lib.hid (And.intro hS5 (And.intro hr5 (And.intro ha5 (And.intro hf5 hmo))))
        clear qe2
        clear hr5 ha5 hf5 hmo hS5 hA5 hm5 q3 q4 qt
        go_wp2_with fail
        go_roundw
        case rel => exact ⟨j + 1, _, _, F5, hlt, by go_num, HX5.out.1, HRE.out, HX5.out.2.2.2.1, HX5.out.2.2.2.2, HX5.out.2.1, HX5.out.2.2.1⟩
        case measure => simp [intOf]; omega
set_option maxHeartbeats 16000000 in
theorem bkw_any (G : GD) (hm : May G) (v : Int) (cl : List Bool) (w0 : World) (t p B C : Nat) (a : Option Addr) (n c : Nat) (hto : TO w0 t p B C G) (hn : cl.length = n) (hrd : Rd w0 1 (.slice a n c) n (cl.map Value.bool))
    (d : List Int) (hf : Fix (webTo G hm v cl) d) (htop : ∀ e, dAt d e ≤ 33553920) (B0 ps rb : Nat) (g : Value) (hB0 : w0.heap.size ≤ B0) (bt bc : Nat) :
    GoOn (webTo G hm v cl) d 48 (.pointer (some ⟨bc, 0, none⟩)) (.pointer (some ⟨bt, 0, none⟩)) g B0 ps rb (Bx w0 t a n c bt bc) bt bc := by
  intro W ds S cA F T k hE hS hap hD hkT hkd
  have hes : G.E.length ≤ 512 := hm.1.2.1
  have hx : (webTo G hm v cl).m = G.E.length := rfl
  rw [hx] at hS
  have hk0 := (hD.o.t k hkT).1
  have hk : k < G.E.length := by have := dAt_in hk0; rw [hf.len] at this; exact this
  have hkt := htop k
  rw [hkd] at hk0 hkt
  obtain ⟨iI, hiI, hzI, hsI, hbI⟩ := info_parts GR.infoI
  have hBw := hE.m.size
  have hKn : ∀ wr, Mod (sdF F rb) W wr → TO wr t p B C G ∧ Rd wr 1 (.slice a n c) n (cl.map Value.bool) ∧ Blk wr bt 29 [.pointer (some ⟨t, 0, none⟩)] ∧ Blk wr bc 32 [.slice a n c] := fun wr hmr => by
    have h0 := hE.keep hmr (fun q hq => hq.elim (fun e => Nat.le_trans hB0 (hS.lo.1 q e)) (fun e => by rw [e]; exact Nat.le_trans hB0 hS.lo.2)) hap.1 hap.2
    exact ⟨hto.keep h0.m, hrd.keep h0.m (fun _ _ e => e), h0.bt, h0.bc⟩
  have HKN := Lib.hid hKn
  obtain ⟨hto1, hcl1, hb3, hb4⟩ := hKn W (Mod.refl _ _)
  have q3 := hb3.cell 0 rfl
  have q4 := hb4.cell 0 rfl
  have qt := hto1.blk.cell 0 rfl
  have HTO := Lib.hid hto1
  have HHC := Lib.hid hcl1
  have HS := Lib.hid hS
  have HD := Lib.hid hD
  have HN := Lib.hid hn
  have HF := Lib.hid hf
  have HTOP := Lib.hid htop
  have HKT := Lib.hid hkT
  have HKD := Lib.hid hkd
  have HMAY := Lib.hid hm
  clear hE hto hrd hn hS hap hD hkT hkd hKn hto1 hcl1 hb3 hb4 hB0 hf htop hx
  go_enter Try.func48, Try.ntmps48
  obtain ⟨cb, hcb⟩ : ∃ b, clB cl (k : Int) = b := ⟨_, rfl⟩
  have HCB := Lib.hid hcb
  go_wp2_with fail
  refine (closed_any W a n c cl HN.out HHC.out (k : Int)).mono ?_
  rintro e w' ⟨rfl, rfl⟩
  rw [hcb]
  clear hcb
  cases cb with
  | true =>
    go_wp2_with fail
    go_end0
    exact ⟨rfl, ds, S, ⟨F, HS.out, fun _ e => .inl e, Mod.refl _ _⟩, HD.out.said (fun e b hr hp => by have h2 := hr.2; have h1 : b = k := hp; rw [h1, HCB.out] at h2; cases h2)⟩
  | false =>
  obtain ⟨ex, hex⟩ : ∃ x, (eAt G (k : Int)).1 = x := ⟨_, rfl⟩
  obtain ⟨ey, hey⟩ : ∃ x, (eAt G (k : Int)).2.1 = x := ⟨_, rfl⟩
  obtain ⟨ez, hez⟩ : ∃ x, (eAt G (k : Int)).2.2 = x := ⟨_, rfl⟩
  have hwz : 1 ≤ (eAt G (k : Int)).2.2 ∧ (eAt G (k : Int)).2.2 ≤ 65535 := edgeW G HMAY.out (k : Int) (by omega)
  rw [hez] at hwz
  have hED := edge_ok p B C G W HTO.out.go k hk ex ey ez hex hey hez
  have HED := Lib.hid hED
  have HEZ := Lib.hid hez
  clear hED hez hex hey
  go_wp2_with fail
  refine HED.out.mono ?_
  rintro e W2 ⟨rfl, hm2⟩
  obtain ⟨b12, hb12⟩ : ∃ b, W2.heap.size = b := ⟨_, rfl⟩
  obtain ⟨W3, hW3⟩ : ∃ x, W2.alloc (.cells #[.int .i64 ex, .int .i64 ey, .int .i64 ez] 43) = x := ⟨_, rfl⟩
  have hbe : Blk W3 b12 43 [.int .i64 ex, .int .i64 ey, .int .i64 ez] := by rw [← hW3, ← hb12]; exact Blk.new W2 _ [.int .i64 ex, .int .i64 ey, .int .i64 ez]
  have hm3 : Mod (fun _ => False) W W3 := by rw [← hW3]; exact hm2.thenAlloc _
  have HM30 := Lib.hid hm3
  have hbap : ¬ sdF F rb b12 := fun h => by have h1 := hm2.size; exact h.elim (fun h => by have := HS.out.hp.lt b12 h; omega) (fun h => by have := HS.out.row.lt; omega)
  have HBAP := Lib.hid hbap
  have HBE := Lib.hid hbe
  have hb12W : W.heap.size ≤ b12 := by have h1 := hm2.size; omega
  clear q3 q4 qt HTO HHC HED hbe hm2 hbap
  obtain ⟨hto, hcl, hb3, hb4⟩ := HKN.out W3 (hm3.mono (fun _ _ e => e.elim))
  have q3 := hb3.cell 0 rfl
  have q4 := hb4.cell 0 rfl
  have qt := hto.blk.cell 0 rfl
  have HTO := Lib.hid hto
  have HHC := Lib.hid hcl
  clear hto hcl hb3 hb4 hm3
  go_wp2_with fail
  clear hW3 hb12
  refine (prev_new t p B C G W3 HTO.out (k : Int)).mono ?_
  rintro e W4 ⟨vr, rfl, ⟨⟨ar, cr, rfl, hrr⟩, hnew⟩, hm4⟩
  obtain ⟨ln, hln⟩ : ∃ q, (prvR G (k : Int)).length = q := ⟨_, rfl⟩
  rw [hln] at hrr hnew ⊢
  have hlnb : ln ≤ 512 := by rw [← hln]; exact Nat.le_trans (prvR_len G (k : Int)) hes
  have hmW4 : Mod (sdF F rb) W W4 := (HM30.out.of2 hm4).mono (fun _ _ e => e.elim)
  have hS4 := HS.out.later (HM30.out.of2 hm4)
  have hrap : ∀ q, (Value.slice ar ln cr).ownBlock = some q → ¬ F q ∧ q ≠ rb := fun q hq => by
    have h0 := hnew q hq
    have h1 := HM30.out.size
    exact ⟨fun h => by have := HS.out.hp.lt q h; omega, fun h => by have := HS.out.row.lt; omega⟩
  have hD4 : Sde (webTo G hm v cl) d T ds S cA (fun e b => b = k ∧ (e : Int) ∈ (prvR G (k : Int)).drop 0) := HD.out.said (fun e b hr hp => ⟨hp, by rw [List.drop_zero]; have h1 : b = k := hp; have h2 := hr.1; rw [h1] at h2; exact mem_prv h2⟩)
  have HLN := Lib.hid hln
  clear hln hnew q3 q4 qt HTO HHC
  go_wp2_with fail
  go_loopw [28] (fun i wr => ∃ (j : Nat) (ds : List Int) (S : List It) (F' : Nat → Prop), j ≤ ln ∧ i = .int .i64 j ∧ SdO wr B0 ps rb G.E.length ds S cA g F' ∧ Sde (webTo G hm v cl) d T ds S cA (fun e b => b = k ∧ (e : Int) ∈ (prvR G (k : Int)).drop j) ∧ (∀ q, F' q → F q ∨ W.heap.size ≤ q) ∧ Mod (sdF F rb) W wr ∧ Rd wr 1 (.slice ar ln cr) ln ((prvR G (k : Int)).map (Value.int .i64)) ∧ (∀ q, (Value.slice ar ln cr).ownBlock = some q → ¬ F' q ∧ q ≠ rb) ∧ Blk wr b12 43 [.int .i64 ex, .int .i64 ey, .int .i64 ez] ∧ ¬ sdF F' rb b12) (fun i _ => ln - (intOf i).toNat)
  case atStart => exact ⟨0, ds, S, F, by omega, rfl, hS4, hD4, fun _ e => .inl e, hmW4, hrr, hrap, HBE.out.keep hm4 (fun e => e), HBAP.out⟩
  case round =>
    clear hS4 hD4 hrr hrap hmW4 hm4
    obtain ⟨j, ds1, S1, F1, hj, rfl, hS1, hD1, hF1, hM1, hrr, hrap, hbe, hbap⟩ := hrel
    obtain ⟨wo, hwo⟩ : ∃ x : World, x = wr := ⟨_, rfl⟩
    subst hwo
    obtain ⟨hto, hcl, hb3, hb4⟩ := HKN.out wo hM1
    have q3 := hb3.cell 0 rfl
    have q4 := hb4.cell 0 rfl
    have qt := hto.blk.cell 0 rfl
    have HTO := Lib.hid hto
    have HHC := Lib.hid hcl
    have hids := hS1.ids
    have hfew := hD1.o.few hids.2
    have hsf : S1.length ≤ 1000 := by have h3 : (webTo G hm v cl).m = G.E.length := rfl; omega
    have HS1 := Lib.hid hS1
    have HD1 := Lib.hid hD1
    have HF1 := Lib.hid hF1
    have HM1 := Lib.hid hM1
    have HRR := Lib.hid hrr
    have HRA := Lib.hid hrap
    have HID := Lib.hid hids
    have qe2 := hbe.cell 2 rfl
    have HB := Lib.hid (And.intro hbe hbap)
    clear hbe hbap
    clear hto hcl hb3 hb4 hS1 hD1 hF1 hM1 hrr hrap hids hfew
    by_cases hlt : j < ln
    case neg =>
      obtain rfl : j = ln := by omega
      have z0 : decide ((j : Int) < (j : Int)) = false := by simp
      go_wp2_with fail
      go_end0
      exact ⟨rfl, ds1, S1, ⟨F1, HS1.out, HF1.out, HM1.out⟩, HD1.out.said (fun e b _ hp => by have h1 := hp.2; rw [List.drop_of_length_le (by rw [HLN.out]; exact Nat.le_refl _)] at h1; cases h1)⟩
    case pos =>
      have z0 : decide ((j : Int) < (ln : Int)) = true := by simp; omega
      have hjl : j < (prvR G (k : Int)).length := by rw [HLN.out]; exact hlt
      obtain ⟨kb, hkb, hkbe, hkt2⟩ := prvR_at G (k : Int) j hjl
      obtain ⟨eb, eo, hpl, e0⟩ := rd1 HRR.out j hjl
      have hix := fun wx => run_indexS (P := Try.prog) wx 22 3 iI 1 Try.underlying22 hiI hsI ar ln cr j hlt (HRR.out.some_ (by omega))
      rw [hpl] at hix
      rw [hkb] at e0
      have HKB := Lib.hid hkb
      have HTR := Lib.hid hkt2
      clear hpl hkb hkt2
      have hrl2 : (webTo G hm v cl).rl kb k := ⟨HTR.out, HCB.out⟩
      have hrr2 := HD1.out.reach (pend' := fun e b => b = k ∧ (e : Int) ∈ (prvR G (k : Int)).drop (j + 1)) HF.out HTOP.out HID.out.2 (e := kb) (b := k) hrl2 HKT.out (fun e' b' h => by
        rw [List.drop_eq_getElem_cons hjl] at h
        rcases List.mem_cons.1 h.2 with h1 | h1
        · rw [HKB.out] at h1; exact .inr ⟨by omega, h.1⟩
        · exact .inl ⟨h.1, h1⟩) (cA + ez) (by rw [HKD.out]; show cA + ez = cA + (eAt G (k : Int)).2.2; rw [HEZ.out])
      have hrc := sreach_any wo B0 ps rb G.E.length ds1 S1 cA g F1 HS1.out kb hkbe (cA + ez) (by omega) hsf (by omega)
      have HRC := Lib.hid hrc
      have HRE := Lib.hid hrr2
      clear hrc hrr2 hrl2
      go_wp2_with fail
      refine HRC.out.mono ?_
      rintro e W5 ⟨rfl, F5, hS5, hA5, hm5⟩
      have hr5 := HRR.out.keep hm5 (fun q hq e => e.elim (HRA.out q hq).1 (HRA.out q hq).2)
      have ha5 : ∀ q, (Value.slice ar ln cr).ownBlock = some q → ¬ F5 q ∧ q ≠ rb := fun q hq => ⟨fun h => (hA5 q h).elim (HRA.out q hq).1 (fun h2 => absurd (show (prvR G (k : Int)).length = 0 from (by simpa using congrArg List.length (HRR.out.lt hq h2))) (by omega)), (HRA.out q hq).2⟩
      have hf5 : ∀ q, F5 q → F q ∨ W.heap.size ≤ q := fun q h => (hA5 q h).elim (HF1.out q) (fun h2 => .inr (by have h3 := HM1.out.size; omega))
      have hmo : Mod (sdF F rb) W W5 := HM1.out.trans hm5 (fun _ _ e => e) (fun q hq e => e.elim (fun h => (HF1.out q h).elim .inl (fun h2 => by omega)) .inr)
      have HX5 := Lib.hid (And.intro hS5 (And.intro hr5 (And.intro ha5 (And.intro hf5 hmo))))
      have HB5 := Lib.hid (And.intro (HB.out.1.keep hm5 HB.out.2) (show ¬ sdF F5 rb b12 from fun h => h.elim (fun h => (hA5 b12 h).elim (fun e => HB.out.2 (.inl e)) (fun e => by have := HB.out.1.lt; omega)) (fun e => HB.out.2 (.inr e))))
      clear qe2
      clear hr5 ha5 hf5 hmo hS5 hA5 hm5 q3 q4 qt
      go_wp2_with fail
      go_roundw
      case rel => exact ⟨j + 1, _, _, F5, hlt, by go_num, HX5.out.1, HRE.out, HX5.out.2.2.2.1, HX5.out.2.2.2.2, HX5.out.2.1, HX5.out.2.2.1, HB5.out.1, HB5.out.2⟩
      case measure => simp [intOf]; omega
end Go.Proofs.Ytbjdjafkpldbnaa
namespace Go.Proofs.Ytbjdjafkpldbnaa
open Go.RowKit Mile
set_option maxRecDepth 100000
/-- A side to which some ends were said: rs; all at nothing. -/
structure Bgn (X : Web) (rs : List Int) (ds : List Int) (S : List It) : Prop where
  sound : ∀ x ∈ S, ∃ e : Nat, x.1 = e ∧ e < X.m ∧ X.st e ∧ x.2 = 0
  has : ∀ r ∈ rs, (r, (0 : Int)) ∈ S
  len : ds.length = X.m
  at_ : ∀ e : Nat, ((e : Int), (0 : Int)) ∈ S → dAt ds e = 0
  no : ∀ e : Nat, ((e : Int), (0 : Int)) ∉ S → dAt ds e = -1
theorem Bgn.start (X : Web) : Bgn X [] (List.replicate X.m (-1)) [] :=
  ⟨fun _ h => (by cases h), fun _ h => (by cases h), List.length_replicate, fun _ h => (by cases h), fun _ _ => dAt_rep _ _⟩
theorem Bgn.few {X : Web} {rs ds : List Int} {S : List It} (h : Bgn X rs ds S) (hid : Ids S) : S.length ≤ X.m := by
  have h1 : (S.map (·.1)).Nodup := hid
  have h2 : (S.map (·.1)) ⊆ (List.range X.m).map Int.ofNat := by
    intro y hy
    obtain ⟨x, hx, rfl⟩ := List.mem_map.1 hy
    obtain ⟨e, he, hm, _⟩ := h.sound x hx
    exact List.mem_map.2 ⟨e, List.mem_range.2 hm, by rw [he]; rfl⟩
  have := nodup_le _ _ h1 h2
  simpa using this
theorem Bgn.reach {X : Web} {rs ds : List Int} {S : List It} (h : Bgn X rs ds S) {e : Nat} (he : e < X.m) (hs : X.st e) {rs' : List Int} (hrs : ∀ r ∈ rs', r ∈ rs ∨ r = (e : Int)) : Bgn X rs' (if lessF ds e 0 then ds.set e 0 else ds) (if lessF ds e 0 then (pushS S e 0).2 else S) := by
  by_cases hin : ((e : Int), (0 : Int)) ∈ S
  · have h1 := h.at_ e hin
    have hl : lessF ds e 0 = false := by unfold lessF; rw [h1]; rfl
    rw [hl]
    exact ⟨h.sound, fun r hr => (hrs r hr).elim (h.has r) (fun e2 => by rw [e2]; exact hin), h.len, h.at_, h.no⟩
  · have h1 := h.no e hin
    have hl : lessF ds e 0 = true := by unfold lessF; rw [h1]; rfl
    rw [hl]
    simp only [if_true]
    have hno : ∀ x ∈ S, x.1 ≠ (e : Int) := fun x hx e2 => by
      obtain ⟨j, _, _, _, h5⟩ := h.sound x hx
      exact hin (by have : x = ((e : Int), (0 : Int)) := Prod.ext e2 h5; rwa [this] at hx)
    have hk := keyS_none hno
    have hmem : ∀ x, x ∈ (pushS S e 0).2 ↔ x ∈ S ∨ x = ((e : Int), (0 : Int)) := fun x => by
      unfold pushS
      rw [hk]
      simp only []
      rw [(insS_perm S ((e : Int), (0 : Int))).mem_iff]
      simp [or_comm]
    have hel : e < ds.length := by rw [h.len]; exact he
    refine ⟨fun x hx => ?_, fun r hr => (hmem _).2 ((hrs r hr).imp (h.has r) (fun e2 => by rw [e2])), by rw [List.length_set]; exact h.len, fun j hj => ?_, fun j hj => ?_⟩
    · rcases (hmem x).1 hx with h2 | rfl
      · exact h.sound x h2
      · exact ⟨e, rfl, he, hs, rfl⟩
    · rw [dAt_set ds e 0 j hel]
      by_cases hje : j = e
      · rw [if_pos hje]
      · rw [if_neg hje]
        rcases (hmem _).1 hj with h2 | h2
        · exact h.at_ j h2
        · exact absurd (by have := congrArg Prod.fst h2; simp only at this; omega) hje
    · rw [dAt_set ds e 0 j hel]
      have hje : j ≠ e := fun e2 => hj ((hmem _).2 (.inr (by rw [e2])))
      rw [if_neg hje]
      exact h.no j (fun h2 => hj ((hmem _).2 (.inl h2)))
/-- Whoever was told all its ends is a side of whom nobody is settled. -/
theorem Bgn.side {X : Web} {rs ds : List Int} {S : List It} (h : Bgn X rs ds S) {d : List Int} (hf : Fix X d) (hB : Begins X rs) : Sde X d [] ds S 0 (fun _ _ => False) := by
  have hst : ∀ e : Nat, X.st e → e < X.m → ((e : Int), (0 : Int)) ∈ S := fun e h1 h2 => h.has _ (hB.all e h1 h2)
  refine ⟨⟨List.nodup_nil, by simp, by simp, fun x hx => ?_, fun e h1 h2 _ => .inr ⟨0, hst e h1 h2, Int.le_refl _⟩, by simp⟩, ⟨by simp [farP, h.len], by simp, fun e k _ hk => ?_, fun e _ hk => ?_⟩, by simp, Int.le_refl _, .inl rfl⟩
  · obtain ⟨e, h1, h2, h3, h4⟩ := h.sound x hx
    have := hf.st e h3 h2
    exact ⟨e, h1, h2, by simp, by unfold bigM; omega, by omega, by omega, by omega⟩
  · obtain ⟨j, h1, h2, _, h4⟩ := h.sound _ hk
    simp only at h1 h4
    subst h4
    have h5 := h.at_ e hk
    have hl : e < ds.length := by rw [h.len]; omega
    rw [dP_far ds e hl, h5]
  · have h5 := h.no e (fun h6 => hk 0 h6)
    by_cases hl : e < ds.length
    · rw [dP_far ds e hl, h5]; rfl
    · unfold dP; rw [List.getD, List.getElem?_eq_none (by simp [farP]; omega)]; rfl
set_option maxHeartbeats 8000000 in
theorem sbegin_any (X : Web) (hm : X.m ≤ 1000) (d : List Int) (hf : Fix X d) (w : World) (kf : FuncId) (v1 v2 : Value) (a : Option Addr) (n c : Nat) (rs : List Int) (hn : rs.length = n) (hn1 : n ≤ 100000) (hr : Rd w 1 (.slice a n c) n (rs.map (Value.int .i64))) (hB : Begins X rs) :
    Calls Try.prog 43 #[.int .i64 (X.m : Int), (.func (.func kf) #[] #[v1, v2]), .slice a n c] w fun x w' => ∃ ps rb ds S F, x = .returned (.pointer (some ⟨ps, 0, none⟩)) ∧ SdO w' w.heap.size ps rb X.m ds S 0 (.func (.func kf) #[] #[v1, v2]) F ∧ Sde X d [] ds S 0 (fun _ _ => False) ∧ Mod (fun _ => False) w w' := by
  obtain ⟨iI, hiI, hzI, hsI, hbI⟩ := info_parts GR.infoI
  obtain ⟨m, hmm⟩ : ∃ m, X.m = m := ⟨_, rfl⟩
  rw [hmm] at hm ⊢
  have hmk := fun wx => run_makeS (P := Try.prog) 22 3 iI (.int .i64 0) Try.underlying22 hiI hzI rfl hsI m (by rw [hbI]; omega) (by omega) wx
  obtain ⟨rb, hrb⟩ : ∃ b, w.heap.size = b := ⟨_, rfl⟩
  obtain ⟨w1, hw1⟩ : ∃ W, w.alloc (.cells (zrow (.int .i64 0) m) 3) = W := ⟨_, rfl⟩
  have hm1 : Mod (fun _ => False) w w1 := by rw [← hw1]; exact Mod.alloc _ _ _
  have hz1 : w1.heap.size = rb + 1 := by rw [← hw1, ← hrb]; exact heap_size_alloc _ _
  have ho0 : Blk w1 rb 3 ((fillL m 0).map (Value.int .i64)) := by
    have e1 : zrow (.int .i64 0) m = ((fillL m 0).map (Value.int .i64)).toArray := by
      rw [← Array.toList_inj, zrow_toList, fillL_zero, List.map_replicate]
    rw [← hw1, ← hrb, e1]
    exact Blk.new w _ _
  have hmk2 := hmk w
  rw [hw1, hrb] at hmk2
  have hHp := SH.HpO.new (fv := (.slice (some ⟨rb, 0, none⟩) m m, .int .i64 0, (.func (.func kf) #[] #[v1, v2]))) w1 (rb + 1) hz1.symm
  obtain ⟨w2, hw2⟩ : ∃ W, w1.alloc (.cells #[.slice (some ⟨rb, 0, none⟩) m m, .slice none 0 0, .map none, .int .i64 0, (.func (.func kf) #[] #[v1, v2])] 65) = W := ⟨_, rfl⟩
  rw [hw2] at hHp
  have hm2 : Mod (fun _ => False) w1 w2 := by rw [← hw2]; exact Mod.alloc _ _ _
  have ho2 := ho0.keep hm2 (fun e => e)
  have hS : SdO w2 w.heap.size (rb + 1) rb m (fillL m 0) [] 0 (.func (.func kf) #[] #[v1, v2]) (fun k => k = rb + 1) := ⟨hHp, ho2, by omega, fillL_len m 0 (by omega), fun k hk => by omega, by omega⟩
  obtain ⟨p, hp⟩ : ∃ p, rb + 1 = p := ⟨_, rfl⟩
  rw [hp] at hS hz1
  obtain ⟨v9, mb9, hb9⟩ := hS.blk
  have c0 := hb9.cell 0 rfl
  have HS := Lib.hid hS
  have HM2 := Lib.hid (hm1.of2 hm2)
  have HR := Lib.hid hr
  have HN := Lib.hid hn
  have HX := Lib.hid hmm
  have HRB := Lib.hid (And.intro hrb hp)
  have HBg := Lib.hid hB
  have HFx := Lib.hid hf
  clear hmk ho0 hHp hm2 ho2 hS hm1 hr hn hmm hB hf
  go_enter Try.func43, Try.ntmps43
  go_wp2_with fail
  clear hw2 hz1 hmk2 hw1 hrb hp c0 hb9
  go_loopw [21] (fun i wr => ∃ k : Nat, k ≤ m ∧ i = .int .i64 k ∧ SdO wr w.heap.size p rb m (fillL m k) [] 0 (.func (.func kf) #[] #[v1, v2]) (fun k => k = p) ∧ Mod (fun _ => False) w wr) (fun i _ => m - (intOf i).toNat)
  case atStart => exact ⟨0, by omega, rfl, HS.out, HM2.out⟩
  case round =>
    obtain ⟨k, hk, rfl, hS, hM⟩ := hrel
    obtain ⟨v9, mb9, hb9⟩ := hS.blk
    have c0 := hb9.cell 0 rfl
    have HS1 := Lib.hid hS
    have HM := Lib.hid hM
    clear hS hM hb9
    by_cases hlt : k < m
    case pos =>
      have z0 : decide ((k : Int) < (m : Int)) = true := by simp; omega
      have q0 := HS1.out.cell hlt
      have q1 := HS1.out.row.free k
      have hst := HS1.out.setRow (e := k) (-1)
      rw [fillL_set m k hlt] at hst
      have hix : ∀ wx, (Instr.indexAt 22 (.slice (some ⟨rb, 0, none⟩) m m) (.int .i64 (k : Int))).run Try.prog wx = .ok (.pointer (some ⟨rb, k, none⟩)) wx := fun wx => by
        have h := run_indexS (P := Try.prog) wx 22 3 iI 1 Try.underlying22 hiI hsI (some ⟨rb, 0, none⟩) m m k hlt (by simp)
        have hp := (show elemA (some ⟨rb, 0, none⟩) k 1 = ⟨rb, k, none⟩ by unfold elemA; rw [Option.getD_some, Addr.add_lit, Nat.zero_add, Nat.mul_one])
        rw [hp] at h; exact h
      have HST := Lib.hid hst
      clear hst
      go_wp2_with fail
      go_roundw
      case rel =>
        have hset : ∀ wx, Mod (fun k => k = rb) wx (wx.setCell ⟨rb, k, none⟩ (.int .i64 (-1))) := fun wx => Mod.setCell _ _ _ rfl
        exact ⟨k + 1, hlt, by go_num, HST.out, HM.out.old (hset _) (fun i hi => by have h1 := HRB.out.1; have h2 : i = rb := hi; omega)⟩
      case measure => simp [intOf]; omega
    case neg =>
      obtain rfl : k = m := by omega
      have z0 : decide ((k : Int) < (k : Int)) = false := by simp
      go_wp2_with fail
      clear z0 c0 hlt hk
      have hD0 := Bgn.start X
      have hS0 := HS1.out
      rw [fillL_all] at hS0
      rw [HX.out] at hD0
      go_loopw [33] (fun i wr => ∃ (j : Nat) (ds : List Int) (S : List It) (F : Nat → Prop), j ≤ n ∧ i = .int .i64 j ∧ SdO wr w.heap.size p rb k ds S 0 (.func (.func kf) #[] #[v1, v2]) F ∧ Bgn X (rs.take j) ds S ∧ Mod (fun _ => False) w wr) (fun i _ => n - (intOf i).toNat)
      case atStart => exact ⟨0, _, [], _, by omega, rfl, hS0, by rw [List.take_zero]; exact hD0, HM.out⟩
      case round =>
        clear hS0 hD0
        obtain ⟨j, ds, S, F, hj, rfl, hS, hD, hM⟩ := hrel
        obtain ⟨wo, hwo⟩ : ∃ x : World, x = wr := ⟨_, rfl⟩
        subst hwo
        have HSS := Lib.hid hS
        have HDD := Lib.hid hD
        have HMM := Lib.hid hM
        clear hS hD hM
        by_cases hlt : j < n
        case pos =>
          have z0 : decide ((j : Int) < (n : Int)) = true := by simp; omega
          have hjl : j < rs.length := by rw [HN.out]; exact hlt
          have hr1 := HR.out.keep HMM.out (fun _ _ e => e)
          obtain ⟨eb, eo, hpl, e0⟩ := rd1 hr1 j hjl
          have hix := fun wx => run_indexS (P := Try.prog) wx 22 3 iI 1 Try.underlying22 hiI hsI a n c j hlt (hr1.some_ (by omega))
          rw [hpl] at hix
          obtain ⟨e, he, hem, hst⟩ := HBg.out.ok _ (List.getElem_mem hjl)
          rw [he] at e0
          have hek : e < k := by rw [← HX.out]; exact hem
          have hids := HSS.out.ids
          have hfew := HDD.out.few hids.2
          have hreach := sreach_any wo w.heap.size p rb k ds S 0 (.func (.func kf) #[] #[v1, v2]) F HSS.out e hek 0 (by omega) (by have := HX.out; omega) (by omega)
          have hD2 := HDD.out.reach hem hst (rs' := rs.take (j + 1)) (fun r hr => by
            rw [List.take_succ_eq_append_getElem hjl, he] at hr
            rcases List.mem_append.1 hr with h | h
            · exact .inl h
            · exact .inr (by simpa using h))
          have HD2 := Lib.hid hD2
          have HRe := Lib.hid hreach
          clear hr1 hpl he hst hem hids hfew hreach hD2
          go_wp2_with fail
          refine HRe.out.mono ?_
          rintro x w3 ⟨rfl, F', hS3, hA, hm3⟩
          go_wp2_with fail
          go_roundw
          case rel => exact ⟨j + 1, _, _, F', hlt, by go_num, hS3, HD2.out, HMM.out.old hm3 (fun q hq => hq.elim (HSS.out.lo.1 q) (fun e2 => by rw [e2]; exact HSS.out.lo.2))⟩
          case measure => simp [intOf]; omega
        case neg =>
          obtain rfl : j = n := by omega
          have z0 : decide ((j : Int) < (j : Int)) = false := by simp
          go_wp2_with fail
          go_ret
          refine ⟨p, rb, ds, S, F, rfl, HSS.out, ?_, HMM.out⟩
          have hD := HDD.out
          rw [List.take_of_length_le (by rw [HN.out]; exact Nat.le_refl _)] at hD
          exact hD.side HFx.out HBg.out
end Go.Proofs.Ytbjdjafkpldbnaa
namespace Go.Proofs.Ytbjdjafkpldbnaa
open Go.RowKit Mile
set_option maxRecDepth 100000
attribute [local go_sem] Oper.semAt_some
/-- A side has made a step. -/
def StepQ (X : Web) (d : List Int) (T : List Nat) (B0 ps rb : Nat) (g : Value) (F : Nat → Prop) (dsw : List Int) (W : World) (e : Ending) (W' : World) : Prop :=
  ∃ x : Nat, e = .returned (.int .i64 (stepV (dAt d x) dsw x)) ∧ x ∉ T ∧ x < X.m ∧ 0 ≤ dAt d x ∧ ∃ ds S, SdQ B0 ps rb X.m ds S (dAt d x) g F W W' ∧ Sde X d (T ++ [x]) ds S (dAt d x) (fun _ _ => False)
set_option maxHeartbeats 8000000 in
theorem stepA_any (X : Web) (d : List Int) (hf : Fix X d) (htop : ∀ e, dAt d e ≤ 33553920) (hm : X.m ≤ 512) (v1 v2 : Value) (B0 ps rb : Nat) (w0 : World) (t : Nat) (a : Option Addr) (n c bt bc : Nat)
    (hG : GoOn X d 44 v1 v2 (.func (.func 44) #[] #[v1, v2]) B0 ps rb (Bx w0 t a n c bt bc) bt bc) (hB0 : w0.heap.size ≤ B0) (W : World) (ds : List Int) (y : It) (S : List It) (cA : Int) (F : Nat → Prop) (T : List Nat)
    (hE : Bx w0 t a n c bt bc W) (hS : SdO W B0 ps rb X.m ds (y :: S) cA (.func (.func 44) #[] #[v1, v2]) F) (hap : ¬ sdF F rb bt ∧ ¬ sdF F rb bc) (hD : Sde X d T ds (y :: S) cA (fun _ _ => False))
    (Bw pw rw : Nat) (dsw : List Int) (Sw : List It) (cw : Int) (gw : Value) (Fw : Nat → Prop) (hw : SdO W Bw pw rw X.m dsw Sw cw gw Fw) (hdj : ∀ k, sdF F rb k → ¬ sdF Fw rw k) (hrow : ∀ e, dAt dsw e ≤ 33553920 + 65535 ∧ -1 ≤ dAt dsw e) :
    Calls Try.prog 28 #[.pointer (some ⟨ps, 0, none⟩), .pointer (some ⟨pw, 0, none⟩)] W (StepQ X d T B0 ps rb (.func (.func 44) #[] #[v1, v2]) F dsw W) := by
  obtain ⟨iI, hiI, hzI, hsI, hbI⟩ := info_parts GR.infoI
  obtain ⟨x, hx1, hxm, hxT, h0, hx2, hD2⟩ := hD.pop hf hS.ids.1 hS.ids.2
  obtain ⟨y1, y2⟩ := y
  simp only at hx1 hx2
  subst hx1 hx2
  have hfew := hD.o.few hS.ids.2
  have hxt := htop x
  have hrx := hrow x
  obtain ⟨far, hfar⟩ : ∃ q, dAt d x = q := ⟨_, rfl⟩
  obtain ⟨sv, hsv⟩ : ∃ q, stepV (dAt d x) dsw x = q := ⟨_, rfl⟩
  obtain ⟨fw, hfw⟩ : ∃ q, dAt dsw x = q := ⟨_, rfl⟩
  have HQ : Hid (∀ W', (∃ ds S, SdQ B0 ps rb X.m ds S (dAt d x) (.func (.func 44) #[] #[v1, v2]) F W W' ∧ Sde X d (T ++ [x]) ds S (dAt d x) (fun _ _ => False)) → StepQ X d T B0 ps rb (.func (.func 44) #[] #[v1, v2]) F dsw W (.returned (.int .i64 sv)) W') := Lib.hid fun W' hq => ⟨x, by rw [hsv], hxT, hxm, h0, hq⟩
  have HPO := Lib.hid (SH.hpop_any ps W (((x : Int), dAt d x) :: S) F hS.hp (by omega))
  have hfs : far = dAt d x := hfar.symm
  rw [hfar] at HPO h0 hxt hD2 hsv HQ
  rw [hfw] at hrx
  have hkT : x ∈ T ++ [x] := by simp
  have HD2 := Lib.hid (And.intro hD2 (And.intro hkT hfar))
  have HS := Lib.hid hS
  have HE := Lib.hid hE
  have HW := Lib.hid hw
  have HAP := Lib.hid hap
  have HDJ := Lib.hid hdj
  have HGO := Lib.hid hG
  have HB0 := Lib.hid hB0
  have HSV := Lib.hid (And.intro hsv hfw)
  clear hD hS hfar hsv hE hw hap hdj hG hB0 hf htop hD2 hkT hfs hxT hrow hfw
  go_enter Try.func28, Try.ntmps28
  go_wp2_with fail
  refine HPO.out.mono ?_
  rintro e W1 ⟨rfl, hp2, hm2⟩
  simp only
  have hS1 : SdO W1 B0 ps rb X.m ds S cA (.func (.func 44) #[] #[v1, v2]) F := ⟨hp2, HS.out.row.keep hm2 HS.out.ap, HS.out.ap, HS.out.len, HS.out.lo⟩
  have hS2 := hS1.setC far
  have hmS : Mod (fun j => j = ps) W1 (W1.setCell ⟨ps, 3, none⟩ (.int .i64 far)) := Mod.setCell _ _ _ rfl
  have hmo : Mod (sdF F rb) W (W1.setCell ⟨ps, 3, none⟩ (.int .i64 far)) := (hm2.mono (fun _ _ e => .inl e)).trans hmS (fun _ _ e => e) (fun q _ e => .inl (by rw [show q = ps from e]; exact HS.out.self))
  obtain ⟨v9, mb9, hb1⟩ := hS1.blk
  obtain ⟨v8, mb8, hb2⟩ := hS2.blk
  have q3 := hb1.cell 3 rfl
  have fr3 := hb1.free 3
  have q4 := hb2.cell 4 rfl
  have hE2 := HE.out.keep hmo (fun q hq => hq.elim (fun e => Nat.le_trans HB0.out (HS.out.lo.1 q e)) (fun e => by rw [e]; exact Nat.le_trans HB0.out HS.out.lo.2)) HAP.out.1 HAP.out.2
  have HGC := Lib.hid (HGO.out _ ds S far F (T ++ [x]) x hE2 hS2 HAP.out HD2.out.1 HD2.out.2.1 HD2.out.2.2)
  have HMO := Lib.hid hmo
  clear hp2 hm2 hS1 hS2 hmS hmo hb1 hb2 hE2 HPO
  go_wp2_with fail
  refine HGC.out.mono ?_
  rintro e W3 ⟨rfl, ds', S', ⟨F', hS3, hg3, hm3⟩, hD3⟩
  have hsz := HMO.out.size
  have hmo3 : Mod (sdF F rb) W W3 := HMO.out.trans hm3 (fun _ _ e => e) (fun _ _ e => e)
  have hw3 := HW.out.keep hmo3 (fun q hq e => HDJ.out q e hq)
  obtain ⟨v7, mb7, hbw⟩ := hw3.blk
  have q0 := hbw.cell 0 rfl
  have e0 := hw3.cell hxm
  rw [HSV.out.2] at e0
  have hix := fun wx => run_indexS (P := Try.prog) wx 22 3 iI 1 Try.underlying22 hiI hsI (some ⟨rw, 0, none⟩) X.m X.m x hxm (by simp)
  rw [show elemA (some ⟨rw, 0, none⟩) x 1 = ⟨rw, x, none⟩ by simp [elemA, Addr.add_lit]] at hix
  have HFIN := Lib.hid (show ∃ ds S, SdQ B0 ps rb X.m ds S far (.func (.func 44) #[] #[v1, v2]) F W W3 ∧ Sde X d (T ++ [x]) ds S far (fun _ _ => False) from ⟨ds', S', ⟨F', hS3, fun q hq => (hg3 q hq).imp id (fun h => by omega), hmo3⟩, hD3⟩)
  clear hS3 hg3 hm3 hD3 hmo3 hw3 hbw q3 fr3 q4
  by_cases hu : fw = -1
  · have hv : sv = 9223372036854775807 := by rw [← HSV.out.1]; unfold stepV; rw [HSV.out.2, if_pos hu]
    subst hu
    rw [hv] at HQ
    go_wp2_with fail
    go_ret
    exact HQ.out _ HFIN.out
  · have hv : sv = far + fw := by rw [← HSV.out.1]; unfold stepV; rw [HSV.out.2, if_neg hu]
    have z0 : (fw == -1) = false := beq_eq_false_iff_ne.2 hu
    rw [hv] at HQ
    go_wp2_with fail
    go_ret
    exact HQ.out _ HFIN.out
set_option maxHeartbeats 8000000 in
theorem stepB_any (X : Web) (d : List Int) (hf : Fix X d) (htop : ∀ e, dAt d e ≤ 33553920) (hm : X.m ≤ 512) (v1 v2 : Value) (B0 ps rb : Nat) (w0 : World) (t : Nat) (a : Option Addr) (n c bt bc : Nat)
    (hG : GoOn X d 48 v1 v2 (.func (.func 48) #[] #[v1, v2]) B0 ps rb (Bx w0 t a n c bt bc) bt bc) (hB0 : w0.heap.size ≤ B0) (W : World) (ds : List Int) (y : It) (S : List It) (cA : Int) (F : Nat → Prop) (T : List Nat)
    (hE : Bx w0 t a n c bt bc W) (hS : SdO W B0 ps rb X.m ds (y :: S) cA (.func (.func 48) #[] #[v1, v2]) F) (hap : ¬ sdF F rb bt ∧ ¬ sdF F rb bc) (hD : Sde X d T ds (y :: S) cA (fun _ _ => False))
    (Bw pw rw : Nat) (dsw : List Int) (Sw : List It) (cw : Int) (gw : Value) (Fw : Nat → Prop) (hw : SdO W Bw pw rw X.m dsw Sw cw gw Fw) (hdj : ∀ k, sdF F rb k → ¬ sdF Fw rw k) (hrow : ∀ e, dAt dsw e ≤ 33553920 + 65535 ∧ -1 ≤ dAt dsw e) :
    Calls Try.prog 28 #[.pointer (some ⟨ps, 0, none⟩), .pointer (some ⟨pw, 0, none⟩)] W (StepQ X d T B0 ps rb (.func (.func 48) #[] #[v1, v2]) F dsw W) := by
  obtain ⟨iI, hiI, hzI, hsI, hbI⟩ := info_parts GR.infoI
  obtain ⟨x, hx1, hxm, hxT, h0, hx2, hD2⟩ := hD.pop hf hS.ids.1 hS.ids.2
  obtain ⟨y1, y2⟩ := y
  simp only at hx1 hx2
  subst hx1 hx2
  have hfew := hD.o.few hS.ids.2
  have hxt := htop x
  have hrx := hrow x
  obtain ⟨far, hfar⟩ : ∃ q, dAt d x = q := ⟨_, rfl⟩
  obtain ⟨sv, hsv⟩ : ∃ q, stepV (dAt d x) dsw x = q := ⟨_, rfl⟩
  obtain ⟨fw, hfw⟩ : ∃ q, dAt dsw x = q := ⟨_, rfl⟩
  have HQ : Hid (∀ W', (∃ ds S, SdQ B0 ps rb X.m ds S (dAt d x) (.func (.func 48) #[] #[v1, v2]) F W W' ∧ Sde X d (T ++ [x]) ds S (dAt d x) (fun _ _ => False)) → StepQ X d T B0 ps rb (.func (.func 48) #[] #[v1, v2]) F dsw W (.returned (.int .i64 sv)) W') := Lib.hid fun W' hq => ⟨x, by rw [hsv], hxT, hxm, h0, hq⟩
  have HPO := Lib.hid (SH.hpop_any ps W (((x : Int), dAt d x) :: S) F hS.hp (by omega))
  have hfs : far = dAt d x := hfar.symm
  rw [hfar] at HPO h0 hxt hD2 hsv HQ
  rw [hfw] at hrx
  have hkT : x ∈ T ++ [x] := by simp
  have HD2 := Lib.hid (And.intro hD2 (And.intro hkT hfar))
  have HS := Lib.hid hS
  have HE := Lib.hid hE
  have HW := Lib.hid hw
  have HAP := Lib.hid hap
  have HDJ := Lib.hid hdj
  have HGO := Lib.hid hG
  have HB0 := Lib.hid hB0
  have HSV := Lib.hid (And.intro hsv hfw)
  clear hD hS hfar hsv hE hw hap hdj hG hB0 hf htop hD2 hkT hfs hxT hrow hfw
  go_enter Try.func28, Try.ntmps28
  go_wp2_with fail
  refine HPO.out.mono ?_
  rintro e W1 ⟨rfl, hp2, hm2⟩
  simp only
  have hS1 : SdO W1 B0 ps rb X.m ds S cA (.func (.func 48) #[] #[v1, v2]) F := ⟨hp2, HS.out.row.keep hm2 HS.out.ap, HS.out.ap, HS.out.len, HS.out.lo⟩
  have hS2 := hS1.setC far
  have hmS : Mod (fun j => j = ps) W1 (W1.setCell ⟨ps, 3, none⟩ (.int .i64 far)) := Mod.setCell _ _ _ rfl
  have hmo : Mod (sdF F rb) W (W1.setCell ⟨ps, 3, none⟩ (.int .i64 far)) := (hm2.mono (fun _ _ e => .inl e)).trans hmS (fun _ _ e => e) (fun q _ e => .inl (by rw [show q = ps from e]; exact HS.out.self))
  obtain ⟨v9, mb9, hb1⟩ := hS1.blk
  obtain ⟨v8, mb8, hb2⟩ := hS2.blk
  have q3 := hb1.cell 3 rfl
  have fr3 := hb1.free 3
  have q4 := hb2.cell 4 rfl
  have hE2 := HE.out.keep hmo (fun q hq => hq.elim (fun e => Nat.le_trans HB0.out (HS.out.lo.1 q e)) (fun e => by rw [e]; exact Nat.le_trans HB0.out HS.out.lo.2)) HAP.out.1 HAP.out.2
  have HGC := Lib.hid (HGO.out _ ds S far F (T ++ [x]) x hE2 hS2 HAP.out HD2.out.1 HD2.out.2.1 HD2.out.2.2)
  have HMO := Lib.hid hmo
  clear hp2 hm2 hS1 hS2 hmS hmo hb1 hb2 hE2 HPO
  go_wp2_with fail
  refine HGC.out.mono ?_
  rintro e W3 ⟨rfl, ds', S', ⟨F', hS3, hg3, hm3⟩, hD3⟩
  have hsz := HMO.out.size
  have hmo3 : Mod (sdF F rb) W W3 := HMO.out.trans hm3 (fun _ _ e => e) (fun _ _ e => e)
  have hw3 := HW.out.keep hmo3 (fun q hq e => HDJ.out q e hq)
  obtain ⟨v7, mb7, hbw⟩ := hw3.blk
  have q0 := hbw.cell 0 rfl
  have e0 := hw3.cell hxm
  rw [HSV.out.2] at e0
  have hix := fun wx => run_indexS (P := Try.prog) wx 22 3 iI 1 Try.underlying22 hiI hsI (some ⟨rw, 0, none⟩) X.m X.m x hxm (by simp)
  rw [show elemA (some ⟨rw, 0, none⟩) x 1 = ⟨rw, x, none⟩ by simp [elemA, Addr.add_lit]] at hix
  have HFIN := Lib.hid (show ∃ ds S, SdQ B0 ps rb X.m ds S far (.func (.func 48) #[] #[v1, v2]) F W W3 ∧ Sde X d (T ++ [x]) ds S far (fun _ _ => False) from ⟨ds', S', ⟨F', hS3, fun q hq => (hg3 q hq).imp id (fun h => by omega), hmo3⟩, hD3⟩)
  clear hS3 hg3 hm3 hD3 hmo3 hw3 hbw q3 fr3 q4
  by_cases hu : fw = -1
  · have hv : sv = 9223372036854775807 := by rw [← HSV.out.1]; unfold stepV; rw [HSV.out.2, if_pos hu]
    subst hu
    rw [hv] at HQ
    go_wp2_with fail
    go_ret
    exact HQ.out _ HFIN.out
  · have hv : sv = far + fw := by rw [← HSV.out.1]; unfold stepV; rw [HSV.out.2, if_neg hu]
    have z0 : (fw == -1) = false := beq_eq_false_iff_ne.2 hu
    rw [hv] at HQ
    go_wp2_with fail
    go_ret
    exact HQ.out _ HFIN.out
end Go.Proofs.Ytbjdjafkpldbnaa
namespace Go.Proofs.Ytbjdjafkpldbnaa
open Go.RowKit Mile
set_option maxRecDepth 100000
attribute [local go_sem] Oper.semAt_some
/-- A side that has begun. -/
def SideQ (X : Web) (d : List Int) (t : Nat) (a : Option Addr) (n c : Nat) (g : Nat → Nat → Value) (w : World) (e : Ending) (w' : World) : Prop :=
  ∃ B0 ps rb ds S F bt bc, e = .returned (.pointer (some ⟨ps, 0, none⟩)) ∧ SdO w' B0 ps rb X.m ds S 0 (g bt bc) F ∧ (¬ sdF F rb bt ∧ ¬ sdF F rb bc) ∧ Sde X d [] ds S 0 (fun _ _ => False) ∧ Bx w t a n c bt bc w' ∧ w.heap.size ≤ B0 ∧ Mod (fun _ => False) w w' ∧ (w.heap.size ≤ bt ∧ w.heap.size ≤ bc)
def gOn (bt bc : Nat) : Value := .func (.func 44) #[] #[.pointer (some ⟨bt, 0, none⟩), .pointer (some ⟨bc, 0, none⟩)]
def gBack (bt bc : Nat) : Value := .func (.func 48) #[] #[.pointer (some ⟨bc, 0, none⟩), .pointer (some ⟨bt, 0, none⟩)]
set_option maxHeartbeats 4000000 in
theorem onwards_any (G : GD) (hm : May G) (w : World) (t p B C : Nat) (h : TO w t p B C G) (k : Nat) (hk : k < G.E.length) (a : Option Addr) (n c : Nat) (cl : List Bool) (hr : Rd w 1 (.slice a n c) n (cl.map Value.bool)) (d : List Int) (hf : Fix (webFrom G hm (k : Int) cl) d) :
    Calls Try.prog 24 #[.pointer (some ⟨t, 0, none⟩), .slice a n c, .int .i64 (k : Int)] w (SideQ (webFrom G hm (k : Int) cl) d t a n c gOn w) := by
  have hes : G.E.length ≤ 512 := hm.1.2.1
  have hx : (webFrom G hm (k : Int) cl).m = G.E.length := rfl
  obtain ⟨b3, hb3⟩ : ∃ b, w.heap.size = b := ⟨_, rfl⟩
  obtain ⟨w1, hw1⟩ : ∃ W, World.alloc w (.cells #[.pointer (some ⟨t, 0, none⟩)] 29) = W := ⟨_, rfl⟩
  have hB3 : Blk w1 b3 29 [.pointer (some ⟨t, 0, none⟩)] := by rw [← hw1, ← hb3]; exact Blk.new _ 29 [.pointer (some ⟨t, 0, none⟩)]
  have hz1 : w1.heap.size = b3 + 1 := by rw [← hw1, ← hb3]; exact heap_size_alloc _ _
  have hm1 : Mod (fun _ => False) w w1 := by rw [← hw1]; exact Mod.alloc _ _ _
  obtain ⟨b4, hb4⟩ : ∃ b, b3 + 1 = b := ⟨_, rfl⟩
  obtain ⟨w2, hw2⟩ : ∃ W, World.alloc w1 (.cells #[.slice a n c] 32) = W := ⟨_, rfl⟩
  have hB4 : Blk w2 b4 32 [.slice a n c] := by rw [← hw2, ← hb4, ← hz1]; exact Blk.new _ 32 [.slice a n c]
  have hz2 : w2.heap.size = b4 + 1 := by rw [← hw2, ← hb4, ← hz1]; exact heap_size_alloc _ _
  have hm2 : Mod (fun _ => False) w1 w2 := by rw [← hw2]; exact Mod.alloc _ _ _
  have hm12 := hm1.of2 hm2
  have hto := h.keep hm12
  have hB3' := hB3.keep hm2 (fun e => e)
  have q3 := hB3'.cell 0 rfl
  have q4 := hB4.cell 0 rfl
  have qt := hto.blk.cell 0 rfl
  rw [hb4] at hz1
  obtain ⟨b5, hb5⟩ : ∃ b, b4 + 1 = b := ⟨_, rfl⟩
  obtain ⟨w3, hw3⟩ : ∃ W, World.alloc w2 (.cells #[.int .i64 (k : Int)] 3) = W := ⟨_, rfl⟩
  have hB5 : Blk w3 b5 3 [.int .i64 (k : Int)] := by rw [← hw3, ← hb5, ← hz2]; exact Blk.new _ 3 [.int .i64 (k : Int)]
  have hm3 : Mod (fun _ => False) w2 w3 := by rw [← hw3]; exact Mod.alloc _ _ _
  have hz3 : w3.heap.size = b5 + 1 := by rw [← hw3, ← hb5, ← hz2]; exact heap_size_alloc _ _
  have HB5 := Lib.hid (And.intro hB5 (And.intro hm3 (And.intro hb5 hz3)))
  clear hB5 hm3 hz3
  rw [hb5] at hz2
  have HTO := Lib.hid hto
  have HB := Lib.hid (And.intro hB3' (And.intro hB4 (And.intro hm12 (And.intro hb3 (And.intro hb4 hz2)))))
  have HR := Lib.hid hr
  have HF := Lib.hid hf
  have HMAY := Lib.hid hm
  have HX := Lib.hid hx
  clear hto hB3 hB3' hB4 hm1 hm2 hm12 hr hf hx h
  go_enter Try.func24, Try.ntmps24
  go_wp2_with fail
  refine (edges_any p B C _ G HTO.out.go).mono ?_
  rintro e w' ⟨rfl, rfl⟩
  go_wp2_with fail
  refine (sbegin_any (webFrom G HMAY.out (k : Int) cl) (by rw [HX.out]; omega) d HF.out w3 44 (.pointer (some ⟨b3, 0, none⟩)) (.pointer (some ⟨b4, 0, none⟩)) (some ⟨b5, 0, none⟩) 1 1 [(k : Int)] rfl (by decide) (Rd.ofBlk1 HB5.out.1) (from_begins G HMAY.out k hk cl)).mono ?_
  rintro e w4 ⟨ps, rb, ds, S, F, rfl, hS, hD, hm4⟩
  have hB3 := HB.out.1
  have hB4 := HB.out.2.1
  have hm12 := HB.out.2.2.1
  have hb3' := HB.out.2.2.2.1
  have hb4' := HB.out.2.2.2.2.1
  have hz2' := HB.out.2.2.2.2.2
  have hap : ∀ q, q ≤ b4 → ¬ sdF F rb q := fun q hq e => e.elim (fun e => by have := hS.lo.1 q e; have := HB5.out.2.2.2; have := HB5.out.2.2.1; omega) (fun e => by have := hS.lo.2; have := HB5.out.2.2.2; have := HB5.out.2.2.1; omega)
  have hfin : SideQ (webFrom G hm (k : Int) cl) d t a n c gOn w (.returned (.pointer (some ⟨ps, 0, none⟩))) w4 :=
    ⟨_, ps, rb, ds, S, F, b3, b4, rfl, hS, ⟨hap b3 (by omega), hap b4 (Nat.le_refl _)⟩, hD, ⟨hm12.of2 (HB5.out.2.1.of2 hm4), hB3.keep (HB5.out.2.1.of2 hm4) (fun e => e), hB4.keep (HB5.out.2.1.of2 hm4) (fun e => e)⟩, by have := HB5.out.2.2.2; have := HB5.out.2.2.1; omega, hm12.of2 (HB5.out.2.1.of2 hm4), by omega, by omega⟩
  have HFIN := Lib.hid hfin
  clear hS hD hm4 hB3 hB4 hm12 hb3' hb4' hz2' hap hfin
  go_wp2_with fail
  go_ret
  exact HFIN.out
set_option maxHeartbeats 4000000 in
theorem backwards_any (G : GD) (hm : May G) (w : World) (t p B C : Nat) (h : TO w t p B C G) (v : Int) (ai : Option Addr) (ci : Nat) (a : Option Addr) (n c : Nat) (cl : List Bool) (hr : Rd w 1 (.slice a n c) n (cl.map Value.bool)) (d : List Int) (hf : Fix (webTo G hm v cl) d) (hi : Rd w 1 (.slice ai (idx (G.E.map (·.2.1)) v).length ci) (idx (G.E.map (·.2.1)) v).length ((idx (G.E.map (·.2.1)) v).map (Value.int .i64))) :
    Calls Try.prog 25 #[.pointer (some ⟨t, 0, none⟩), .slice a n c, .slice ai (idx (G.E.map (·.2.1)) v).length ci] w (SideQ (webTo G hm v cl) d t a n c gBack w) := by
  have hes : G.E.length ≤ 512 := hm.1.2.1
  have hx : (webTo G hm v cl).m = G.E.length := rfl
  obtain ⟨b3, hb3⟩ : ∃ b, w.heap.size = b := ⟨_, rfl⟩
  obtain ⟨w1, hw1⟩ : ∃ W, World.alloc w (.cells #[.pointer (some ⟨t, 0, none⟩)] 29) = W := ⟨_, rfl⟩
  have hB3 : Blk w1 b3 29 [.pointer (some ⟨t, 0, none⟩)] := by rw [← hw1, ← hb3]; exact Blk.new _ 29 [.pointer (some ⟨t, 0, none⟩)]
  have hz1 : w1.heap.size = b3 + 1 := by rw [← hw1, ← hb3]; exact heap_size_alloc _ _
  have hm1 : Mod (fun _ => False) w w1 := by rw [← hw1]; exact Mod.alloc _ _ _
  obtain ⟨b4, hb4⟩ : ∃ b, b3 + 1 = b := ⟨_, rfl⟩
  obtain ⟨w2, hw2⟩ : ∃ W, World.alloc w1 (.cells #[.slice a n c] 32) = W := ⟨_, rfl⟩
  have hB4 : Blk w2 b4 32 [.slice a n c] := by rw [← hw2, ← hb4, ← hz1]; exact Blk.new _ 32 [.slice a n c]
  have hz2 : w2.heap.size = b4 + 1 := by rw [← hw2, ← hb4, ← hz1]; exact heap_size_alloc _ _
  have hm2 : Mod (fun _ => False) w1 w2 := by rw [← hw2]; exact Mod.alloc _ _ _
  have hm12 := hm1.of2 hm2
  have hto := h.keep hm12
  have hB3' := hB3.keep hm2 (fun e => e)
  have q3 := hB3'.cell 0 rfl
  have q4 := hB4.cell 0 rfl
  have qt := hto.blk.cell 0 rfl
  rw [hb4] at hz1
  have HI := Lib.hid (hi.keep hm12 (fun _ _ e => e))
  have hil : (idx (G.E.map (·.2.1)) v).length ≤ 100000 := by unfold idx; rw [List.length_map]; exact Nat.le_trans (List.length_filter_le _ _) (by simp; omega)
  clear hi
  have HTO := Lib.hid hto
  have HB := Lib.hid (And.intro hB3' (And.intro hB4 (And.intro hm12 (And.intro hb3 (And.intro hb4 hz2)))))
  have HR := Lib.hid hr
  have HF := Lib.hid hf
  have HMAY := Lib.hid hm
  have HX := Lib.hid hx
  clear hto hB3 hB3' hB4 hm1 hm2 hm12 hr hf hx h
  go_enter Try.func25, Try.ntmps25
  go_wp2_with fail
  refine (edges_any p B C _ G HTO.out.go).mono ?_
  rintro e w' ⟨rfl, rfl⟩
  go_wp2_with fail
  refine (sbegin_any (webTo G HMAY.out v cl) (by rw [HX.out]; omega) d HF.out w2 48 (.pointer (some ⟨b4, 0, none⟩)) (.pointer (some ⟨b3, 0, none⟩)) ai _ ci _ rfl hil HI.out (to_begins G HMAY.out v cl)).mono ?_
  rintro e w4 ⟨ps, rb, ds, S, F, rfl, hS, hD, hm4⟩
  have hB3 := HB.out.1
  have hB4 := HB.out.2.1
  have hm12 := HB.out.2.2.1
  have hb3' := HB.out.2.2.2.1
  have hb4' := HB.out.2.2.2.2.1
  have hz2' := HB.out.2.2.2.2.2
  have hap : ∀ q, q ≤ b4 → ¬ sdF F rb q := fun q hq e => e.elim (fun e => by have := hS.lo.1 q e; omega) (fun e => by have := hS.lo.2; omega)
  have hfin : SideQ (webTo G hm v cl) d t a n c gBack w (.returned (.pointer (some ⟨ps, 0, none⟩))) w4 :=
    ⟨_, ps, rb, ds, S, F, b3, b4, rfl, hS, ⟨hap b3 (by omega), hap b4 (Nat.le_refl _)⟩, hD, ⟨hm12.of2 (hm4), hB3.keep (hm4) (fun e => e), hB4.keep (hm4) (fun e => e)⟩, by omega, hm12.of2 (hm4), by omega, by omega⟩
  have HFIN := Lib.hid hfin
  clear hS hD hm4 hB3 hB4 hm12 hb3' hb4' hz2' hap hfin
  go_wp2_with fail
  go_ret
  exact HFIN.out
end Go.Proofs.Ytbjdjafkpldbnaa
