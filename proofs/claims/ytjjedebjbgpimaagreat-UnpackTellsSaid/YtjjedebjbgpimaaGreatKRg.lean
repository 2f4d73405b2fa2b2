/- 'for .. := range f': one law for an iterator and a body that share what they change: the caller's own invariant, no list of what comes. -/
import Derived.Test.YtjjedebjbgpimaaGreatKBase
import Derived.RangeFuncNested
import Derived.RangeFuncBound
import Derived.RangeFuncCalls
import Derived.RangeFuncLeaves
namespace Mile
open Go Go.RowKit
variable {P : Program}
def rfPost (P : Program) (fn : Func) (R : Ending → World → Prop) : Exit → Act → World → Prop
  | .normal, a, w | .ret, a, w => (a.defers = [] ∧ ∃ v, (results fn a.tmps).run P w = .ok v w ∧ R (.returned v) w) ∨
      (∃ D, a.defers = [{ target := .collected D, args := #[] }] ∧ w.heap[D]? = some (.deferred (some [])) ∧ ∃ v, (results fn a.tmps).run P (w.putObj D (.deferred none)) = .ok v (w.putObj D (.deferred none)) ∧ R (.returned v) (w.putObj D (.deferred none)))
  | _, _, _ => False
theorem rfPost_retD {fn : Func} {R : Ending → World → Prop} {a : Act} {w : World} {v : Value} {D : Nat} (hd : a.defers = [{ target := .collected D, args := #[] }]) (hD : w.heap[D]? = some (.deferred (some [])))
    (hr : (results fn a.tmps).run P (w.putObj D (.deferred none)) = .ok v (w.putObj D (.deferred none))) (hR : R (.returned v) (w.putObj D (.deferred none))) : rfPost P fn R .ret a w := .inr ⟨D, hd, hD, v, hr, hR⟩
theorem calls_of_rf {f : FuncId} {fn : Func} {c : Code} {args : Array Value} {w : World} {R : Ending → World → Prop} (hf : P.funcs[f]? = some fn) (hb : fn.body = some c)
    (h : c.wp P (rfPost P fn R) { tmps := args ++ Array.replicate (fn.ntmps - args.size) undef, defers := [] } w) : Calls P f args w R := by
  refine (callsIn_wide (n := 0)).1 (callsIn_of_wp_marks (n := 0) hf hb trivial ?_ rfl)
  refine wpIn_wide.2 (wp_mono h fun e a w hp => ?_)
  have fin : (a.defers = [] ∧ ∃ v, (results fn a.tmps).run P w = .ok v w ∧ R (.returned v) w) ∨
      (∃ D, a.defers = [{ target := .collected D, args := #[] }] ∧ w.heap[D]? = some (.deferred (some [])) ∧ ∃ v, (results fn a.tmps).run P (w.putObj D (.deferred none)) = .ok v (w.putObj D (.deferred none)) ∧ R (.returned v) (w.putObj D (.deferred none))) →
      LeavesInM Fence.wide 0 P fn a.tmps R a.defers .returning w := by
    rintro (⟨hd, v, hr, hR⟩ | ⟨D, hd, hD, v, hr, hR⟩)
    · rw [hd]; exact ⟨v, hr, hR⟩
    · rw [hd]; exact ⟨by simp, .inl ⟨D, _, rfl, run_takeDeferred hD, v, hr, hR⟩⟩
  cases e with
  | normal => exact fin hp
  | ret => exact fin hp
  | _ => exact hp.elim
def rdPost (J : World → Prop) (l D : Nat) (R O : Obj) : Exit → Act → World → Prop
  | .normal, _, W' => J W' ∧ W'.heap[l]? = some R ∧ W'.heap[D]? = some O
  | _, _, _ => False
def YieldsTo (P : Program) {α : Type} (encs : α → Array Value) (l D : Nat) (R O : Obj) (Jb Ja : α → World → Prop) : Prop :=
  ∀ x W, Jb x W → W.heap[l]? = some R → W.heap[D]? = some O → YieldAt Fence.wide 0 P l (encs x) W fun e W' => e = .returned (.bool true) ∧ Ja x W' ∧ W'.heap[l]? = some R ∧ W'.heap[D]? = some O
theorem Mod.putObj (w : World) (l : Nat) (o : Obj) : Mod (fun k => k = l) w (w.putObj l o) :=
  ⟨rfl, rfl, rfl, by simp [World.putObj], fun k _ hn => World.putObj_heap_other (fun e => hn e)⟩
theorem Mod.obj {F : Nat → Prop} {w w' : World} (h : Mod F w w') {l : Nat} {o : Obj} (hl : w.heap[l]? = some o) (hn : ¬ F l) : w'.heap[l]? = some o :=
  (h.block l (Array.getElem?_eq_some_iff.1 hl).1 hn).trans hl
end Mile
namespace Mile
open Go Go.RowKit
variable {P : Program}
theorem wp_rangeFunc_asg {α : Type} {g : Operand} {ps : Array Tmp} {assign body : Code} {Q : Exit → Act → World → Prop} {a : Act} {w : World}
    {gf : Nat} {la lb : Array Value} (hg : a.eval g = .func (.func gf) la lb) (eg : ∀ args w, (callFunc gf args).run P w = .ok (.enter gf args) w)
    (encs : α → Array Value) (hps : ∀ x, (encs x).size = ps.size) (l D : Nat) (hD : D = w.heap.size) (hl : l = w.heap.size + 1)
    (J : World → Prop) (Jb Ja : α → World → Prop) (Je : World → Prop)
    (kJ : ∀ x W o, Ja x W → Ja x (W.putObj l o)) (kb : ∀ x W o, Jb x W → Jb x (W.putObj l o)) (ke : ∀ W o, Je W → Je (W.putObj l o))
    (h0 : ∀ o o', J ((w.alloc o).alloc o')) (Jc : α → Act → World → Prop) (kc : ∀ x b W o, Jc x b W → Jc x b (W.putObj l o))
    (hassign : ∀ (R O : Obj) (x : α) (W : World), Jb x W → W.heap[l]? = some R → W.heap[D]? = some O → assign.wpIn (Fence.wide.inRound l) 0 P (Exit.then (fun b W' => Jc x b W' ∧ W'.heap[l]? = some R ∧ W'.heap[D]? = some O) (fun _ _ _ => False)) { tmps := (ps.zip (encs x)).foldl (fun t (p, v) => t.setIfInBounds p v) a.tmps, defers := [] } W)
    (hiter : ∀ (R O : Obj) (W1 : World), J W1 → W1.heap[l]? = some R → W1.heap[D]? = some O → YieldsTo P encs l D R O Jb Ja →
      CallsIn Fence.wide 0 P gf (la ++ #[.func (.yield l) #[] #[]] ++ lb) W1 fun e W' => (∃ v, e = .returned v) ∧ Je W' ∧ W'.heap[l]? = some R ∧ W'.heap[D]? = some O)
    (hbody : ∀ (R O : Obj) (x : α) (b : Act) (W : World), Jc x b W → W.heap[l]? = some R → W.heap[D]? = some O → body.wpIn (Fence.wide.inRound l) 0 P (rdPost (Ja x) l D R O) b W)
    (hdone : ∀ (W : World), Je W → W.heap[D]? = some (.deferred (some [])) → Q .normal { a with defers := { target := .collected D, args := #[] } :: a.defers } W) :
    (Code.rangeFunc g ps assign body).wp P Q a w := by
  subst hD hl
  refine (wpIn_wide (n := 0)).1 (wpIn_rangeFunc ?_)
  intro fn _
  obtain ⟨rec, hrec⟩ : ∃ rec : LoopState → Option Code → Loop, rec = fun st pe => { state := st, pending := pe, fn, tmps := a.tmps, params := ps, assign, body, defers := w.heap.size } := ⟨_, rfl⟩
  obtain ⟨W1, hW1⟩ : ∃ W1, (w.alloc (.deferred (some []))).alloc (.loop (rec .ready none)) = W1 := ⟨_, rfl⟩
  have hL1 : W1.heap[w.heap.size + 1]? = some (.loop (rec .ready none)) := by
    rw [← hW1]; have := World.alloc_heap_new (w.alloc (.deferred (some []))) (.loop (rec .ready none)); rwa [World.size_alloc] at this
  have hK1 : W1.heap[w.heap.size]? = some (.deferred (some [])) := by
    rw [← hW1]; exact (Below.heap_alloc _ _ _ (by simp)).trans (World.alloc_heap_new w _)
  have hI1 : J W1 := by rw [← hW1]; exact h0 _ _
  refine ⟨w.heap.size + 1, [{ target := .collected w.heap.size, args := #[] }], W1, { target := .fn (.func gf) lb, args := la ++ #[.func (.yield (w.heap.size + 1)) #[] #[]] }, W1, gf,
    la ++ #[.func (.yield (w.heap.size + 1)) #[] #[]] ++ lb, W1, ?_, ?_, ?_, ?_, fun h => by simp [Fence.wide] at h, ?_⟩
  · rw [← hW1, hrec]; exact run_enterLoop_outer _ _ _ _ _
  · simp only [resolve, hg]
    simp [go_sem]
  · intro f' hf'; trivial
  · simp [invoke, go_sem, eg]
  · refine (hiter (.loop (rec .ready none)) (.deferred (some [])) W1 hI1 hL1 hK1 ?_).mono ?_
    · rintro x W hi hl hk
      have hy := run_yield (P := P) (args := encs x) hl (by rw [hrec]; exact hps x)
      rw [hrec] at hy
      refine ⟨fn, _, assign, body, hy, roundIn_of_wpIn trivial (wpIn_mono (hassign _ _ x W hi hl hk) ?_)⟩
      rintro e0 b W0 hp0
      have hne : e0 = .normal := by cases e0 <;> first | rfl | exact hp0.elim
      subst hne
      obtain ⟨hjc, hl0, hk0⟩ := hp0
      refine ⟨_, run_beginRound hl0 (by rw [hrec]), ?_⟩
      have hlt : w.heap.size + 1 < W0.heap.size := (Array.getElem?_eq_some_iff.1 hl0).1
      have hl2 : (W0.putObj (w.heap.size + 1) (.loop { rec .ready none with state := .busy })).heap[w.heap.size + 1]? = some (.loop { rec .ready none with state := .busy }) := World.putObj_heap_same hlt
      have hk2 : (W0.putObj (w.heap.size + 1) (.loop { rec .ready none with state := .busy })).heap[w.heap.size]? = some (.deferred (some [])) := (World.putObj_heap_other (by omega)).trans hk0
      refine wpIn_mono (hbody _ _ x _ _ (kc x b W0 _ hjc) hl2 hk2) ?_
      rintro e a3 W3 hp
      cases e with
      | normal =>
        obtain ⟨hj, hl3, hk3⟩ := hp
        have hr := run_endRound (P := P) none hl3
        rw [hrec] at hr ⊢
        exact ⟨_, _, hr, rfl, kJ _ _ _ hj, World.putObj_heap_same (Array.getElem?_eq_some_iff.1 hl3).1, (World.putObj_heap_other (by omega)).trans hk3⟩
      | _ => exact hp.elim
    · rintro e W2 ⟨⟨v, rfl⟩, hi, hl, hk⟩
      exact ⟨none, _, by have := run_endLoop (P := P) hl (by rw [hrec]; simp); rw [hrec] at this; exact this, hdone _ (ke _ _ hi) ((World.putObj_heap_other (by omega)).trans hk)⟩
end Mile
namespace Mile
open Go Go.RowKit
variable {P : Program}
abbrev markD (D : Nat) : Deferred := { target := .collected D, args := #[] }
def marks (Ds : List Nat) : List Deferred := Ds.map markD
def putDs (w : World) (Ds : List Nat) : World := Ds.foldl (fun w D => w.putObj D (.deferred none)) w
def MarksOk (Ds : List Nat) (w : World) : Prop := Ds.Nodup ∧ ∀ D ∈ Ds, w.heap[D]? = some (.deferred (some []))
theorem putDs_mod (Ds : List Nat) : ∀ w : World, Mod (fun k => k ∈ Ds) w (putDs w Ds) := by
  induction Ds with
  | nil => intro w; exact Mod.refl _ _
  | cons D Ds ih =>
    intro w
    exact (Mod.putObj w D (.deferred none)).trans (ih _) (fun k _ e => by have e2 : k = D := e; rw [e2]; exact List.mem_cons_self) (fun _ _ e => List.mem_cons_of_mem _ e)
theorem MarksOk.cons {D : Nat} {Ds : List Nat} {w : World} (h : MarksOk Ds w) (hD : w.heap[D]? = some (.deferred (some []))) (hn : D ∉ Ds) : MarksOk (D :: Ds) w :=
  ⟨List.nodup_cons.2 ⟨hn, h.1⟩, fun E hE => (List.mem_cons.1 hE).elim (fun e => by rw [e]; exact hD) (h.2 E)⟩
theorem MarksOk.keep {Ds : List Nat} {w w' : World} {G : Nat → Prop} (h : MarksOk Ds w) (hm : Mod G w w') (hG : ∀ D ∈ Ds, ¬ G D) : MarksOk Ds w' :=
  ⟨h.1, fun D hD => hm.obj (h.2 D hD) (hG D hD)⟩
def rfPostN (P : Program) (fn : Func) (R : Ending → World → Prop) : Exit → Act → World → Prop
  | .normal, a, w | .ret, a, w => ∃ Ds, a.defers = marks Ds ∧ MarksOk Ds w ∧ ∃ v, (results fn a.tmps).run P (putDs w Ds) = .ok v (putDs w Ds) ∧ R (.returned v) (putDs w Ds)
  | _, _, _ => False
theorem leaves_marks {fn : Func} {tmps : Array Value} {R : Ending → World → Prop} : ∀ (Ds : List Nat) (w : World), MarksOk Ds w → (∃ v, (results fn tmps).run P (putDs w Ds) = .ok v (putDs w Ds) ∧ R (.returned v) (putDs w Ds)) → LeavesInM Fence.wide 0 P fn tmps R (marks Ds) .returning w
  | [], w, _, ⟨v, hr, hR⟩ => ⟨v, hr, hR⟩
  | D :: Ds, w, hm, h => by
    have hD := hm.2 D List.mem_cons_self
    have hn := List.nodup_cons.1 hm.1
    refine ⟨by simp, .inl ⟨D, _, rfl, run_takeDeferred hD, leaves_marks Ds _ ?_ h⟩⟩
    exact ⟨hn.2, fun E hE => (World.putObj_heap_other (fun (e : E = D) => hn.1 (e ▸ hE))).trans (hm.2 E (List.mem_cons_of_mem _ hE))⟩
theorem calls_of_rfN {f : FuncId} {fn : Func} {c : Code} {args : Array Value} {w : World} {R : Ending → World → Prop} (hf : P.funcs[f]? = some fn) (hb : fn.body = some c)
    (h : c.wp P (rfPostN P fn R) { tmps := args ++ Array.replicate (fn.ntmps - args.size) undef, defers := marks [] } w) : Calls P f args w R := by
  refine (callsIn_wide (n := 0)).1 (callsIn_of_wp_marks (n := 0) hf hb trivial ?_ rfl)
  refine wpIn_wide.2 (wp_mono h fun e a w hp => ?_)
  cases e with
  | normal => obtain ⟨Ds, hd, hm, hv⟩ := hp; show LeavesInM _ _ _ _ _ _ _ _ _; rw [hd]; exact leaves_marks Ds w hm hv
  | ret => obtain ⟨Ds, hd, hm, hv⟩ := hp; show LeavesInM _ _ _ _ _ _ _ _ _; rw [hd]; exact leaves_marks Ds w hm hv
  | _ => exact hp.elim
theorem tmps_form (t : Array Value) (n : Nat) (h : t.size = n) : t = ((List.range n).map (fun k => t.getD k undef)).toArray := by
  apply Array.ext
  · simp [h]
  · intro i h1 h2
    simp [Array.getD, h1]
end Mile
