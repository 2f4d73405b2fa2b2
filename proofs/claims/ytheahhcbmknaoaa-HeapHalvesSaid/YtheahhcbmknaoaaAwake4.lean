/- The law's own look at what the document fixes (milepostlaw4.awake). -/
import Derived.Test.YtheahhcbmknaoaaHeap4
namespace Go.Proofs.Ytheahhcbmknaoaa
open Go.RowKit Mile

/-- A heap of the call's own stands for S, in blocks from B on; nothing that was there has turned. -/
structure HeapSt (w W : World) (p : Nat) (S : List It) (F : Nat → Prop) : Prop where
  obj : HpO W p S F
  low : ∀ k, F k → w.heap.size ≤ k
  mod : Mod (fun _ => False) w W

theorem HeapSt.aft {w W W' : World} {p : Nat} {S S' : List It} {F F' : Nat → Prop} (h : HeapSt w W p S F) (hO : HpO W' p S' F') (ha : Aft W W' F F') : HeapSt w W' p S' F' :=
  ⟨hO, fun k hk => (ha.2 k hk).elim (h.low k) (fun e => Nat.le_trans h.mod.size e), h.mod.trans ha.1 (fun _ _ e => e) (fun i hi e => by have := h.low i e; omega)⟩
theorem HeapSt.keep {w W W' : World} {p : Nat} {S : List It} {F G : Nat → Prop} (h : HeapSt w W p S F) (hm : Mod G W W') (hg : ∀ k, G k → w.heap.size ≤ k) (hd : ∀ k, F k → ¬ G k) : HeapSt w W' p S F :=
  ⟨h.obj.keep hm hd, h.low, h.mod.trans hm (fun _ _ e => e) (fun i hi e => by have := hg i e; omega)⟩
theorem HeapSt.new {w W : World} (hM : Mod (fun _ => False) w W) (p : Nat) (hp : p = W.heap.size) : HeapSt w (W.alloc (.cells #[.slice none 0 0, .map none] 28)) p [] (fun k => k = p) :=
  ⟨HpO.new W p hp, fun k hk => by have := hM.size; omega, hM.thenAlloc _⟩

set_option maxHeartbeats 4000000 in
set_option maxRecDepth 100000 in
theorem awake_any (w : World) : Calls Try.prog 7 #[] w fun e w' => e = .returned (.bool true) ∧ Mod (fun _ => False) w w' := by
  go_enter Try.func7, Try.ntmps7
  go_wp2_with fail
  have h0 := HeapSt.new (Mod.refl (fun _ => False) w) w.heap.size rfl
  refine (hpush_any w.heap.size _ [] _ h0.obj (by simp) 5 9 (by decide) (by decide)).mono ?_
  rintro e w1 ⟨rfl, F1, hO, hA⟩
  rw [show pushS [] 5 9 = (true, [(5, 9)]) by decide] at hO ⊢
  have h1 := h0.aft hO hA
  clear h0 hO hA
  go_wp2_with fail
  refine (hpush_any w.heap.size _ _ _ h1.obj (by simp) 5 3 (by decide) (by decide)).mono ?_
  rintro e w2 ⟨rfl, F2, hO, hA⟩
  rw [show pushS [(5, 9)] 5 3 = (true, [(5, 3)]) by decide] at hO ⊢
  have h2 := h1.aft hO hA
  clear h1 hO hA
  go_wp2_with fail
  refine (hpush_any w.heap.size _ _ _ h2.obj (by simp) 5 7 (by decide) (by decide)).mono ?_
  rintro e w3 ⟨rfl, F3, hO, hA⟩
  rw [show pushS [(5, 3)] 5 7 = (false, [(5, 3)]) by decide] at hO ⊢
  have h3 := h2.aft hO hA
  clear h2 hO hA
  go_wp2_with fail
  refine (hpush_any w.heap.size _ _ _ h3.obj (by simp) 2 3 (by decide) (by decide)).mono ?_
  rintro e w4 ⟨rfl, F4, hO, hA⟩
  rw [show pushS [(5, 3)] 2 3 = (true, [(2, 3), (5, 3)]) by decide] at hO ⊢
  have h4 := h3.aft hO hA
  clear h3 hO hA
  go_wp2_with fail
  refine (hkey_any w.heap.size _ _ _ h4.obj 5 (by decide)).mono ?_
  rintro e w5 ⟨rfl, rfl⟩
  rw [show keyS [(2, 3), (5, 3)] 5 = some 3 by decide]
  go_wp2_with fail
  refine (hpop_any w.heap.size _ _ _ h4.obj (by simp)).mono ?_
  rintro e w5 ⟨rfl, hO, hM⟩
  have h5 := h4.aft hO (Aft.ofMod hM)
  clear h4 hO hM
  go_wp2_with fail
  have k0 := HeapSt.new (w := w5) (Mod.refl (fun _ => False) w5) w5.heap.size rfl
  refine (hpop_any w5.heap.size _ _ _ k0.obj (by simp)).mono ?_
  rintro e w6 ⟨rfl, hO, hM⟩
  have h6 := h5.keep ((k0.aft hO (Aft.ofMod hM)).mod) (fun _ e => e.elim) (fun _ _ e => e)
  clear k0 hO hM h5
  go_wp2_with fail
  refine (hpop_nil _).mono ?_
  rintro e w7 ⟨rfl, rfl⟩
  go_wp2_with fail
  refine (len_any w.heap.size _ _ _ h6.obj).mono ?_
  rintro e w7 ⟨rfl, rfl⟩
  go_wp2_with fail
  refine (hpush_nil _ _ _).mono ?_
  rintro e w7 ⟨rfl, rfl⟩
  go_wp2
  go_ret
  exact ⟨rfl, h6.mod⟩
end Go.Proofs.Ytheahhcbmknaoaa
