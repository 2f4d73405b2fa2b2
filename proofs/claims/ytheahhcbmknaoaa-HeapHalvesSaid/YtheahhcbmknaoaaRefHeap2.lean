/- The document's own answer for heaps: Pop. -/
import Derived.Test.YtheahhcbmknaoaaRefHeap
namespace Go.Proofs.Ytheahhcbmknaoaa
open Go.RowKit Mile

def RPopPost (q : Nat) (S : List It) (F : Nat → Prop) (w : World) (e : Ending) (w' : World) : Prop :=
  match S with
  | [] => e = .returned (.tuple #[.agg #[.int .i64 0, .int .i64 0], .bool false]) ∧ MHO w' q [] F ∧ Mod F w w'
  | x :: r => e = .returned (.tuple #[.agg #[.int .i64 x.1, .int .i64 x.2], .bool true]) ∧ MHO w' q r F ∧ Mod F w w'

set_option maxHeartbeats 2000000 in
theorem rpop_any (q : Nat) (w : World) (S : List It) (F : Nat → Prop) (h : MHO w q S F) :
    Calls Try.prog 9 #[.pointer (some ⟨q, 0, none⟩)] w (RPopPost q S F w) := by
  obtain ⟨iK, hiK, zK, sK, bK⟩ := info_parts MH.infoK
  have hk := h.keep (Mod.alloc (fun _ => False) w (.cells #[.int .i64 0, .int .i64 0] 38)) (fun _ _ e => e)
  obtain ⟨v, h1, h2, h3, h4, h5, h6⟩ := h
  obtain ⟨a, c, hv⟩ : ∃ a c, v = .slice a S.length c := by obtain ⟨_, a, c, hv, _⟩ := h2; exact ⟨a, c, hv⟩
  subst hv
  have c0 := h1.cell 0 rfl
  have d0 := h1.free 0
  have hql := h1.lt
  cases S with
  | nil =>
    go_enter Try.func9, Try.ntmps9
    go_wp2
    exact bodyPost_ret (v := .tuple #[.agg #[.int .i64 0, .int .i64 0], .bool false]) (by simp [results, Try.results9, go_sem]) rfl ⟨rfl, hk, Mod.alloc _ _ _⟩
  | cons x r =>
    clear hk
    have hl : (x :: r).length = r.length + 1 := rfl
    rw [hl] at h1 h2 h4 c0
    have hm : r.length + 1 ≤ 9223372036854775807 := by obtain ⟨_, a', c', he, h1, h2, _⟩ := h2; cases he; unfold maxLen at h2; omega
    obtain ⟨_, b, o, hp, e1, e2⟩ := rd_it h2 0 (by simp)
    have hix := fun wx => run_indexS (P := Try.prog) wx 30 38 iK 2 Try.underlying30 hiK sK a (r.length + 1) c 0 (by omega) (h2.some_ (by omega))
    rw [hp] at hix
    simp only [show g (x :: r) 0 = x from rfl] at e1 e2
    have hix0 : ∀ wx, (Instr.indexAt 30 (.slice a (r.length + 1) c) (.int .i64 0)).run Try.prog wx = .ok (.pointer (some ⟨b, o, none⟩)) wx := hix
    have rD := fun wx => run_dropS (P := Try.prog) wx 30 38 iK 2 Try.underlying30 hiK sK a (r.length + 1) c 1 (by omega)
    have rD1 : ∀ wx, (Instr.slice 30 (.slice a (r.length + 1) c) (some (.int .i64 1)) none none).run Try.prog wx = .ok (.slice (dropA a c 1 2) (r.length + 1 - 1) (c - 1)) wx := rD
    have hbl := World.block_lt_of_cell? w _ e1
    have hl0 : ((((r.length + 1 : Nat)) : Int) == 0) = false := by rw [beq_eq_false_iff_ne]; omega
    have hl1 : (((r.length : Int) + 1) == 0) = false := by rw [beq_eq_false_iff_ne]; omega
    clear hix rD hp
    go_enter Try.func9, Try.ntmps9
    go_wp2_with fail
    have hset : Mod (fun k => k = q) w (w.setCell ⟨q, 0, none⟩ (.slice (dropA a c 1 2) r.length (c - 1))) := Mod.setCell _ _ _ rfl
    have hO : MHO (w.setCell ⟨q, 0, none⟩ (.slice (dropA a c 1 2) r.length (c - 1))) q r F := by
      have hd := h2.drop (show 1 ≤ r.length + 1 by omega)
      have e1 : ((x :: r).flatMap cellsIt).drop (1 * 2) = r.flatMap cellsIt := by simp [cellsIt]
      rw [e1, Nat.add_sub_cancel] at hd
      have hown : ∀ k, (Value.slice (dropA a c 1 2) r.length (c - 1)).ownBlock = some k → F k ∧ k ≠ q := fun k hk => h4 k (by rw [← hk]; exact (dropA_own a c 1 2 _ _ _ _).symm)
      exact ⟨_, h1.set 0 _, hd.keep hset (fun k hk e => (hown k hk).2 e), h3, hown, fun k hk => by have := h5 k hk; simp; omega, fun y hy => h6 y (by simp [hy])⟩
    exact bodyPost_ret (v := .tuple #[.agg #[.int .i64 x.1, .int .i64 x.2], .bool true]) (by simp [results, Try.results9, go_sem]) rfl
      ⟨rfl, (hO.keep (Mod.alloc (fun _ => False) _ _) (fun _ _ e => e)).keep (Mod.alloc (fun _ => False) _ _) (fun _ _ e => e), ((hset.mono (fun k _ e => by rw [e]; exact h3) : Mod F w _).thenAlloc _).thenAlloc _⟩
end Go.Proofs.Ytheahhcbmknaoaa
