/- Nets: their memory. -/
import Derived.Test.YtnklgeekjkchbaaNet2
import Derived.Test.YtnklgeekjkchbaaInsA
import Derived.Test.YtnklgeekjkchbaaDelA
namespace Mile
open Go Go.RowKit
/-- A function, but at one place. -/
def upN {α : Type} (f : Nat → α) (v : Nat) (x : α) : Nat → α := fun u => if u = v then x else f u
theorem upN_at {α : Type} (f : Nat → α) (v : Nat) (x : α) : upN f v x v = x := if_pos rfl
theorem upN_ne {α : Type} (f : Nat → α) {u v : Nat} (x : α) (h : u ≠ v) : upN f v x u = f u := if_neg h
theorem range_set {α : Type} (f : Nat → α) (n v : Nat) (x : α) : ((List.range n).map f).set v x = (List.range n).map (upN f v x) := by
  apply List.ext_getElem
  · simp
  · intro i h1 h2
    rw [List.getElem_set]
    by_cases h : v = i
    · subst h; rw [if_pos rfl, List.getElem_map, List.getElem_range, upN_at]
    · rw [if_neg h, List.getElem_map, List.getElem_map, List.getElem_range, upN_ne _ _ (fun e => h e.symm)]
theorem riseI_len {R : List Int} (h : RiseI R) : ∀ (lo n : Nat), (∀ x ∈ R, (lo : Int) ≤ x ∧ x < ((lo + n : Nat) : Int)) → R.length ≤ n := by
  induction R with
  | nil => intro _ _ _; exact Nat.zero_le _
  | cons b R ih =>
    intro lo n hx
    obtain ⟨h1, h2⟩ := List.pairwise_cons.1 h
    have hb := hx b List.mem_cons_self
    obtain ⟨m, hm⟩ := Int.eq_ofNat_of_zero_le (show 0 ≤ b by omega)
    have h3 := ih h2 (m + 1) (lo + n - (m + 1)) (fun x hxm => by
      have h4 := h1 x hxm
      have h5 := hx x (List.mem_cons_of_mem _ hxm)
      omega)
    rw [List.length_cons]; omega
theorem inF_len {n : Nat} {L : List Ar} (h : NetOk n L) (v : Int) : (inF L v).length ≤ n := riseI_len (inF_rise h.sort v) 0 n (fun x hx => by
  obtain ⟨b, hb, rfl, _⟩ := mem_inF.1 hx
  have := h.may b hb; unfold mayA at this; omega)
theorem outL_len {n : Nat} {L : List Ar} (h : NetOk n L) (v : Int) : (outL L v).length ≤ n := by
  have h1 : RiseI ((outL L v).map (·.t)) := by unfold RiseI; rw [List.pairwise_map]; exact outL_rise h.sort v
  have := riseI_len h1 0 n (fun x hx => by
    obtain ⟨b, hb, rfl⟩ := List.mem_map.1 hx
    have := h.may b (mem_outL.1 hb).1; unfold mayA at this; omega)
  rwa [List.length_map] at this
end Mile
namespace Go.Proofs.Ytnklgeekjkchbaa
open Go.RowKit Mile
set_option maxRecDepth 100000
/-- A block of cells of this type. -/
def BlT (w : World) (k : Nat) (T : TypeId) : Prop := ∃ cur fz, w.heap[k]? = some (.cells cur T fz)
theorem BlT.blk {w : World} {k : Nat} {T : TypeId} {cs : List Value} (h : Blk w k T cs) : BlT w k T := ⟨_, _, h⟩
theorem BlT.own {w : World} {B s n k : Nat} {T : TypeId} {v : Value} {xs : List Value} (h : w.ownsRow B T s v n xs) (hk : v.ownBlock = some k) : BlT w k T := by
  rcases h.2 with ⟨e1, _⟩ | ⟨g, cap, u, e1, _, hb, _⟩
  · rw [e1] at hk; cases hk
  · rw [e1] at hk
    obtain rfl : g = k := Option.some.inj hk
    exact ⟨_, _, hb⟩
theorem BlT.ne {w : World} {j k : Nat} {T U : TypeId} (h1 : BlT w j T) (h2 : BlT w k U) (hT : T ≠ U) : j ≠ k := fun e => by
  subst e
  obtain ⟨c1, z1, h1⟩ := h1
  obtain ⟨c2, z2, h2⟩ := h2
  rw [h1] at h2
  injection h2 with h2
  injection h2 with _ e _
  exact hT e
theorem BlT.lt {w : World} {k : Nat} {T : TypeId} (h : BlT w k T) : k < w.heap.size := by obtain ⟨_, _, h⟩ := h; exact lt_of_block h
/-- A net at block p: its rows in own memory. -/
structure NM (w : World) (p n ob ib : Nat) (oa ia : Nat → Option Addr) (oc ic : Nat → Nat) (ro : Nat → List Ar) (ri : Nat → List Int) : Prop where
  blk : Blk w p 72 [.slice (some ⟨ob, 0, none⟩) n n, .slice (some ⟨ib, 0, none⟩) n n]
  ob : Blk w ob 22 ((List.range n).map fun v => .slice (oa v) (ro v).length (oc v))
  ib : Blk w ib 56 ((List.range n).map fun v => .slice (ia v) (ri v).length (ic v))
  ow : ∀ v, v < n → w.ownsRow 0 32 4 (.slice (oa v) (ro v).length (oc v)) (ro v).length ((ro v).flatMap c4)
  iw : ∀ v, v < n → w.ownsRow 0 3 1 (.slice (ia v) (ri v).length (ic v)) (ri v).length ((ri v).map (Value.int .i64))
  oap : ∀ u v, u < n → v < n → u ≠ v → ∀ k, (Value.slice (oa u) 0 0).ownBlock = some k → (Value.slice (oa v) 0 0).ownBlock ≠ some k
  iap : ∀ u v, u < n → v < n → u ≠ v → ∀ k, (Value.slice (ia u) 0 0).ownBlock = some k → (Value.slice (ia v) 0 0).ownBlock ≠ some k
/-- Its blocks. -/
def nmF (p ob ib n : Nat) (oa ia : Nat → Option Addr) : Nat → Prop := fun k => k = p ∨ k = ob ∨ k = ib ∨ (∃ v, v < n ∧ (Value.slice (oa v) 0 0).ownBlock = some k) ∨ (∃ v, v < n ∧ (Value.slice (ia v) 0 0).ownBlock = some k)
section
variable {w w' : World} {p n ob ib : Nat} {oa ia : Nat → Option Addr} {oc ic : Nat → Nat} {ro : Nat → List Ar} {ri : Nat → List Int}
theorem NM.tyo (h : NM w p n ob ib oa ia oc ic ro ri) {v k : Nat} (hv : v < n) (hk : (Value.slice (oa v) 0 0).ownBlock = some k) : BlT w k 32 := BlT.own (h.ow v hv) (by rw [← hk]; exact own_slice _ _ _ _ _)
theorem NM.tyi (h : NM w p n ob ib oa ia oc ic ro ri) {v k : Nat} (hv : v < n) (hk : (Value.slice (ia v) 0 0).ownBlock = some k) : BlT w k 3 := BlT.own (h.iw v hv) (by rw [← hk]; exact own_slice _ _ _ _ _)
theorem NM.lt (h : NM w p n ob ib oa ia oc ic ro ri) {k : Nat} (hk : nmF p ob ib n oa ia k) : k < w.heap.size := by
  rcases hk with rfl | rfl | rfl | ⟨v, hv, hk⟩ | ⟨v, hv, hk⟩
  · exact h.blk.lt
  · exact h.ob.lt
  · exact h.ib.lt
  · exact (h.tyo hv hk).lt
  · exact (h.tyi hv hk).lt
theorem NM.keep {G : Nat → Prop} (h : NM w p n ob ib oa ia oc ic ro ri) (hm : Mod G w w') (hG : ∀ k, nmF p ob ib n oa ia k → ¬ G k) : NM w' p n ob ib oa ia oc ic ro ri :=
  ⟨h.blk.keep hm (hG p (.inl rfl)), h.ob.keep hm (hG ob (.inr (.inl rfl))), h.ib.keep hm (hG ib (.inr (.inr (.inl rfl)))),
   fun v hv => Own.keep (h.ow v hv) hm (fun k hk => hG k (.inr (.inr (.inr (.inl ⟨v, hv, by rw [← hk]; exact own_slice _ _ _ _ _⟩))))),
   fun v hv => Own.keep (h.iw v hv) hm (fun k hk => hG k (.inr (.inr (.inr (.inr ⟨v, hv, by rw [← hk]; exact own_slice _ _ _ _ _⟩))))), h.oap, h.iap⟩
theorem NM.later (h : NM w p n ob ib oa ia oc ic ro ri) (hm : Mod (fun _ => False) w w') : NM w' p n ob ib oa ia oc ic ro ri := h.keep hm (fun _ _ e => e)
theorem NM.ocell (h : NM w p n ob ib oa ia oc ic ro ri) {v : Nat} (hv : v < n) : w.cell? ⟨ob, v, none⟩ = some (.slice (oa v) (ro v).length (oc v)) := h.ob.cell v (by rw [List.getElem?_map, List.getElem?_range hv]; rfl)
theorem NM.icell (h : NM w p n ob ib oa ia oc ic ro ri) {v : Nat} (hv : v < n) : w.cell? ⟨ib, v, none⟩ = some (.slice (ia v) (ri v).length (ic v)) := h.ib.cell v (by rw [List.getElem?_map, List.getElem?_range hv]; rfl)
/-- Another row of arcs in the place of one. -/
theorem NM.setO {w5 : World} {v : Nat} {a' : Option Addr} {c' : Nat} {R' : List Ar} {G : Nat → Prop} (h : NM w p n ob ib oa ia oc ic ro ri) (hv : v < n) (ho : w5.ownsRow 0 32 4 (.slice a' R'.length c') R'.length (R'.flatMap c4)) (hm : Mod G w w5) (hG : ∀ k, G k → (Value.slice (oa v) 0 0).ownBlock = some k)
    (hnew : ∀ k, (Value.slice a' 0 0).ownBlock = some k → (Value.slice (oa v) 0 0).ownBlock = some k ∨ w.heap.size ≤ k) :
    NM (w5.setCell ⟨ob, v, none⟩ (.slice a' R'.length c')) p n ob ib (upN oa v a') ia (upN oc v c') ic (upN ro v R') ri ∧ Mod (fun k => k = ob ∨ (Value.slice (oa v) 0 0).ownBlock = some k) w (w5.setCell ⟨ob, v, none⟩ (.slice a' R'.length c')) := by
  have hset : Mod (fun k => k = ob) w5 (w5.setCell ⟨ob, v, none⟩ (.slice a' R'.length c')) := Mod.setCell _ _ _ rfl
  have hGA : ∀ k, G k → BlT w k 32 := fun k hk => h.tyo hv (hG k hk)
  have hp5 := h.blk.keep hm (fun e => (BlT.blk h.blk).ne (hGA p e) (by decide) rfl)
  have ho5 := h.ob.keep hm (fun e => (BlT.blk h.ob).ne (hGA ob e) (by decide) rfl)
  have hi5 := h.ib.keep hm (fun e => (BlT.blk h.ib).ne (hGA ib e) (by decide) rfl)
  have hpo : p ≠ ob := (BlT.blk h.blk).ne (BlT.blk h.ob) (by decide)
  have hio : ib ≠ ob := (BlT.blk h.ib).ne (BlT.blk h.ob) (by decide)
  refine ⟨⟨hp5.keep hset hpo, ?_, hi5.keep hset hio, fun u hu => ?_, fun u hu => ?_, fun u t hu ht hut k hk => ?_, h.iap⟩, hm.trans hset (fun k _ e => .inr (hG k e)) (fun k _ e => .inl e)⟩
  · have h2 := ho5.set v (.slice a' R'.length c')
    rw [range_set] at h2
    have e : (upN (fun u => Value.slice (oa u) (ro u).length (oc u)) v (.slice a' R'.length c')) = fun u => .slice (upN oa v a' u) (upN ro v R' u).length (upN oc v c' u) := funext fun u => by
      by_cases hu : u = v
      · subst hu; simp only [upN_at]
      · simp only [upN_ne _ _ hu]
    rw [e] at h2
    exact h2
  · by_cases huv : u = v
    · subst huv
      simp only [upN_at]
      exact Own.keep ho hset (fun k hk e => (BlT.own ho hk).ne (BlT.blk ho5) (by decide) e)
    · simp only [upN_ne _ _ huv]
      have h5 := Own.keep (h.ow u hu) hm (fun k hk e => h.oap u v hu hv huv k (by rw [← hk]; exact own_slice _ _ _ _ _) (hG k e))
      exact Own.keep h5 hset (fun k hk e => (BlT.own h5 hk).ne (BlT.blk ho5) (by decide) e)
  · have h5 := Own.keep (h.iw u hu) hm (fun k hk e => (BlT.own (h.iw u hu) hk).ne (hGA k e) (by decide) rfl)
    exact Own.keep h5 hset (fun k hk e => (BlT.own h5 hk).ne (BlT.blk ho5) (by decide) e)
  · by_cases h1 : u = v
    · subst h1
      rw [upN_at] at hk
      rw [upN_ne _ _ (fun e => hut e.symm)]
      rcases hnew k hk with g | g
      · exact h.oap u t hu ht hut k g
      · exact fun e => by have := (h.tyo ht e).lt; omega
    · rw [upN_ne _ _ h1] at hk
      by_cases h2 : t = v
      · subst h2
        rw [upN_at]
        intro e
        rcases hnew k e with g | g
        · exact h.oap u t hu ht hut k hk g
        · have := (h.tyo hu hk).lt; omega
      · rw [upN_ne _ _ h2]
        exact h.oap u t hu ht hut k hk
theorem NM.setI {w5 : World} {v : Nat} {a' : Option Addr} {c' : Nat} {R' : List Int} {G : Nat → Prop} (h : NM w p n ob ib oa ia oc ic ro ri) (hv : v < n) (ho : w5.ownsRow 0 3 1 (.slice a' R'.length c') R'.length (R'.map (Value.int .i64))) (hm : Mod G w w5) (hG : ∀ k, G k → (Value.slice (ia v) 0 0).ownBlock = some k)
    (hnew : ∀ k, (Value.slice a' 0 0).ownBlock = some k → (Value.slice (ia v) 0 0).ownBlock = some k ∨ w.heap.size ≤ k) :
    NM (w5.setCell ⟨ib, v, none⟩ (.slice a' R'.length c')) p n ob ib oa (upN ia v a') oc (upN ic v c') ro (upN ri v R') ∧ Mod (fun k => k = ib ∨ (Value.slice (ia v) 0 0).ownBlock = some k) w (w5.setCell ⟨ib, v, none⟩ (.slice a' R'.length c')) := by
  have hset : Mod (fun k => k = ib) w5 (w5.setCell ⟨ib, v, none⟩ (.slice a' R'.length c')) := Mod.setCell _ _ _ rfl
  have hGA : ∀ k, G k → BlT w k 3 := fun k hk => h.tyi hv (hG k hk)
  have hp5 := h.blk.keep hm (fun e => (BlT.blk h.blk).ne (hGA p e) (by decide) rfl)
  have ho5 := h.ob.keep hm (fun e => (BlT.blk h.ob).ne (hGA ob e) (by decide) rfl)
  have hi5 := h.ib.keep hm (fun e => (BlT.blk h.ib).ne (hGA ib e) (by decide) rfl)
  have hpi : p ≠ ib := (BlT.blk h.blk).ne (BlT.blk h.ib) (by decide)
  have hio : ob ≠ ib := (BlT.blk h.ob).ne (BlT.blk h.ib) (by decide)
  refine ⟨⟨hp5.keep hset hpi, ho5.keep hset hio, ?_, fun u hu => ?_, fun u hu => ?_, h.oap, fun u t hu ht hut k hk => ?_⟩, hm.trans hset (fun k _ e => .inr (hG k e)) (fun k _ e => .inl e)⟩
  · have h2 := hi5.set v (.slice a' R'.length c')
    rw [range_set] at h2
    have e : (upN (fun u => Value.slice (ia u) (ri u).length (ic u)) v (.slice a' R'.length c')) = fun u => .slice (upN ia v a' u) (upN ri v R' u).length (upN ic v c' u) := funext fun u => by
      by_cases hu : u = v
      · subst hu; simp only [upN_at]
      · simp only [upN_ne _ _ hu]
    rw [e] at h2
    exact h2
  · have h5 := Own.keep (h.ow u hu) hm (fun k hk e => (BlT.own (h.ow u hu) hk).ne (hGA k e) (by decide) rfl)
    exact Own.keep h5 hset (fun k hk e => (BlT.own h5 hk).ne (BlT.blk hi5) (by decide) e)
  · by_cases huv : u = v
    · subst huv
      simp only [upN_at]
      exact Own.keep ho hset (fun k hk e => (BlT.own ho hk).ne (BlT.blk hi5) (by decide) e)
    · simp only [upN_ne _ _ huv]
      have h5 := Own.keep (h.iw u hu) hm (fun k hk e => h.iap u v hu hv huv k (by rw [← hk]; exact own_slice _ _ _ _ _) (hG k e))
      exact Own.keep h5 hset (fun k hk e => (BlT.own h5 hk).ne (BlT.blk hi5) (by decide) e)
  · by_cases h1 : u = v
    · subst h1
      rw [upN_at] at hk
      rw [upN_ne _ _ (fun e => hut e.symm)]
      rcases hnew k hk with g | g
      · exact h.iap u t hu ht hut k g
      · exact fun e => by have := (h.tyi ht e).lt; omega
    · rw [upN_ne _ _ h1] at hk
      by_cases h2 : t = v
      · subst h2
        rw [upN_at]
        intro e
        rcases hnew k e with g | g
        · exact h.iap u t hu ht hut k hk g
        · have := (h.tyi hu hk).lt; omega
      · rw [upN_ne _ _ h2]
        exact h.iap u t hu ht hut k hk
end
/-- The net at block p stands for these arcs; its blocks are F. -/
def NT (w : World) (p n : Nat) (L : List Ar) (F : Nat → Prop) : Prop :=
  NetOk n L ∧ n ≤ 512 ∧ ∃ ob ib oa ia oc ic, NM w p n ob ib oa ia oc ic (fun v => outL L (v : Int)) (fun v => inF L (v : Int)) ∧ F = nmF p ob ib n oa ia
/-- A net behind a call. -/
def NQ (p n : Nat) (L : List Ar) (F : Nat → Prop) (w w' : World) : Prop := ∃ F', NT w' p n L F' ∧ (∀ k, F' k → F k ∨ w.heap.size ≤ k) ∧ Mod F w w'
section
variable {w w' : World} {p n : Nat} {L : List Ar} {F : Nat → Prop}
theorem NT.ok (h : NT w p n L F) : NetOk n L := h.1
theorem NT.n512 (h : NT w p n L F) : n ≤ 512 := h.2.1
theorem NT.lt (h : NT w p n L F) : ∀ k, F k → k < w.heap.size := fun k hk => by obtain ⟨_, _, _, _, _, _, _, _, h, rfl⟩ := h; exact h.lt hk
theorem NT.keep {G : Nat → Prop} (h : NT w p n L F) (hm : Mod G w w') (hG : ∀ k, F k → ¬ G k) : NT w' p n L F := by
  obtain ⟨h1, h2, ob, ib, oa, ia, oc, ic, h, rfl⟩ := h
  exact ⟨h1, h2, ob, ib, oa, ia, oc, ic, h.keep hm hG, rfl⟩
theorem NT.later (h : NT w p n L F) (hm : Mod (fun _ => False) w w') : NT w' p n L F := h.keep hm (fun _ _ e => e)
theorem Ev.nt (h : NT w p n L F) : Ev (fun w' => NT w' p n L F) w := fun _ m => h.later m
theorem NQ.same (h : NT w p n L F) (hm : Mod (fun _ => False) w w') : NQ p n L F w w' := ⟨F, h.later hm, fun _ e => .inl e, hm.trans (Mod.refl _ _) (fun _ _ e => e.elim) (fun _ _ e => e)⟩
theorem NT.cells (h : NT w p n L F) : ∃ ob ib, w.cell? ⟨p, 0, none⟩ = some (.slice (some ⟨ob, 0, none⟩) n n) ∧ w.cell? ⟨p, 1, none⟩ = some (.slice (some ⟨ib, 0, none⟩) n n) := by
  obtain ⟨h1, h2, ob, ib, oa, ia, oc, ic, h, rfl⟩ := h
  exact ⟨ob, ib, h.blk.cell 0 rfl, h.blk.cell 1 rfl⟩
theorem nt_len (h : NT w p n L F) : Calls Try.prog 25 #[.pointer (some ⟨p, 0, none⟩)] w fun e w' => e = .returned (.int .i64 (n : Int)) ∧ w = w' := by
  obtain ⟨ob, ib, c0, c1⟩ := h.cells
  clear h
  go_enter Try.func25, Try.ntmps25
  go_wp2_with fail
  go_ret
  exact ⟨rfl, rfl⟩
theorem nt_len_nil (w : World) : Calls Try.prog 25 #[.pointer none] w fun e w' => e = .returned (.int .i64 0) ∧ w = w' := by
  go_enter Try.func25, Try.ntmps25
  go_wp2_with fail
  go_ret
  exact ⟨rfl, rfl⟩
theorem nt_has (h : NT w p n L F) (v : Int) (r : Bool) (hr : decide (0 ≤ v ∧ v < (n : Int)) = r) : Calls Try.prog 42 #[.pointer (some ⟨p, 0, none⟩), .int .i64 v] w fun e w' => e = .returned (.bool r) ∧ w = w' := by
  have HL := Lib.hid (nt_len h)
  clear h
  by_cases h0 : 0 ≤ v
  · have z0 : decide (0 ≤ v) = true := by simpa using h0
    have hr2 : decide (v < (n : Int)) = r := by rw [← hr]; simp [h0]
    clear hr h0
    go_enter Try.func42, Try.ntmps42
    go_wp2_with fail
    refine HL.out.mono ?_
    rintro e w' ⟨rfl, rfl⟩
    go_wp2_with fail
    go_ret
    exact ⟨rfl, rfl⟩
  · have z0 : decide (0 ≤ v) = false := by simpa using h0
    have hr2 : r = false := by rw [← hr]; simp [h0]
    subst hr2
    clear hr h0
    go_enter Try.func42, Try.ntmps42
    go_wp2_with fail
    go_ret
    exact ⟨rfl, rfl⟩
end
end Go.Proofs.Ytnklgeekjkchbaa
