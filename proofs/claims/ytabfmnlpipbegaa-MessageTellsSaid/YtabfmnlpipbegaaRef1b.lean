/- Contracts of the document's own answer for octets: milepostref1's Reader.Raw. -/
import Derived.Test.YtabfmnlpipbegaaRef1
namespace Go.Proofs.Ytabfmnlpipbegaa
open Go.RowKit Mile
set_option maxRecDepth 100000

set_option maxHeartbeats 1000000 in
theorem mraw_any (p : Nat) (w : World) (s : Option (List Int)) (B : Nat) (h : MR w p s B) (n : Int) (hbd : (s.getD []).length ≤ 1000000000) :
    Calls Try.prog 39 #[.pointer (some ⟨p, 0, none⟩), .int .i64 n] w fun e w' =>
      ∃ v', e = .returned v' ∧ Fresh w' w.heap.size v' (takeS n s).1 ∧ MR w' p (takeS n s).2 B ∧ Mod (fun k => k = p) w w' := by
  obtain ⟨i0, hi, hz0, hz1, hz2⟩ := info_parts Oct.info5
  have hsp := h.spoilt
  have hmd : Mod (fun k => k = p) w (w.setCell ⟨p, 1, none⟩ (.bool true)) := Mod.setCell w _ _ rfl
  obtain ⟨v, bs, h1, h2, h3, h4, h5⟩ := h
  have hplt := h1.lt
  obtain ⟨a, c, rfl⟩ : ∃ a c, v = .slice a bs.length c := by obtain ⟨_, a, c, rfl, _⟩ := h2; exact ⟨a, c, rfl⟩
  have hcap : bs.length ≤ c := by obtain ⟨_, a', c', he, hc, _⟩ := h2; cases he; exact hc
  have f0 := h1.cell 0 rfl
  have f1 := h1.cell 1 rfl
  have g0 := h1.free 0
  have g1 := h1.free 1
  have hfn : Fresh (w.setCell ⟨p, 1, none⟩ (.bool true)) w.heap.size (.slice none 0 0) [] := World.ownsRow_nil _ _ _ _
  rcases h3 with rfl | rfl
  · rw [takeS_none]
    go_enter Try.func39, Try.ntmps39
    go_wp2
    go_ret
    exact ⟨_, rfl, hfn, hsp, hmd⟩
  · by_cases hb : 0 ≤ n ∧ n ≤ (bs.length : Int)
    · obtain ⟨m, rfl⟩ := Int.eq_ofNat_of_zero_le hb.1
      have hm : m ≤ bs.length := by omega
      have e0 : takeS (m : Int) (some bs) = (bs.take m, some (bs.drop m)) := by simp [takeS, hm]
      rw [e0]
      have r1 := fun wx => run_takeS (P := Try.prog) wx 27 5 i0 Try.underlying27 hi a bs.length c m (by omega)
      have r2 := fun wx => run_dropS (P := Try.prog) wx 27 5 i0 1 Try.underlying27 hi hz1 a bs.length c m hm
      have hbd' : bs.length ≤ 1000000000 := hbd
      have hlt2 : ¬ ((bs.length : Int) < (m : Int)) := by omega
      have h2d := h2.drop hm
      have h2t : Rd w 1 (.slice a m c) m ((bs.take m).map (Value.int .u8)) := by have := h2.take hm; simpa [List.map_take] using this
      have hown : (w.alloc (.cells #[] 5)).ownsRow 0 5 1 (.slice (some ⟨w.heap.size, 0, none⟩) 0 0) 0 [] := World.ownsRow_made w #[] 0 (Nat.zero_le _) (Nat.zero_le _) rfl
      have h1c : ∀ u ∈ (bs.take m).map (Value.int .u8), u.oneCell' = true := by intro u hu; obtain ⟨x, _, rfl⟩ := List.mem_map.1 hu; rfl
      have hm1 : 0 + m ≤ maxLen := by unfold maxLen; omega
      have hm2 : (0 + m) * 1 ≤ 140737488355328 := by omega
      go_enter Try.func39, Try.ntmps39
      go_wp2_with (at_builtin; go_loud (refine wpList_append_any rfl (.tmp 26) (.tmp 32) 27 rfl 5 i0 (.int .u8 0) 1 1 Try.underlying27 hi hz0 hz1 hz2 rfl (by decide) _ 0 [] rfl hown _ m ((bs.take m).map (Value.int .u8)) rfl (h2t.alloc _) h1c hm1 hm2 ?_); intro v' w1 hap; obtain ⟨a1, k1, rfl⟩ := hap.form; have hbk : Blk w1 p 69 [.slice a bs.length c, .bool false] := (h1.alloc _).keep hap.mod (fun e => by have e' : w.heap.size = p := Option.some.inj e; omega); have f0' := hbk.cell 0 rfl; have g0' := hbk.free 0)
      go_ret
      have ho := hap.own
      simp only [Nat.zero_add, List.nil_append] at ho
      have hfr : w1.ownsRow w.heap.size 5 1 (.slice a1 (0 + m) k1) m ((bs.take m).map (Value.int .u8)) := by
        refine Own.rebase (by simpa using ho) (fun k hk => ?_)
        rcases hap.row k hk with h | h
        · have e : w.heap.size = k := Option.some.inj h
          omega
        · have e : (w.alloc (.cells #[] 5)).heap.size = w.heap.size + 1 := by simp
          omega
      have hmod1 : Mod (fun k => k = p) w w1 := (Mod.alloc _ w _).trans hap.mod (fun _ _ e => e) (fun i hi e => by have e' : w.heap.size = i := Option.some.inj e; omega)
      have hmodF : Mod (fun k => w.heap.size ≤ k) w w1 := (Mod.alloc _ w _).trans hap.mod (fun _ _ e => e) (fun i hi e => by have e' : w.heap.size = i := Option.some.inj e; omega)
      refine ⟨.slice a1 m k1, by simp, ?_, ⟨.slice (dropA a c m 1) (bs.length - m) (c - m), bs.drop m, hbk.set 0 _, ?_, .inr rfl, h4, ?_⟩, hmod1.thenSet ⟨p, 0, none⟩ _ (fun _ => rfl)⟩
      · have hl : (bs.take m).length = m := by rw [List.length_take]; omega
        unfold Fresh
        rw [hl]
        have := Own.keep hfr (Mod.setCell (F := fun x => x = p) w1 ⟨p, 0, none⟩ (.slice (dropA a c m 1) (bs.length - m) (c - m)) rfl) (fun k hk e => by have := (hfr.lt k hk).1; omega)
        simpa using this
      · have hk1 := h2d.keepA hmodF (fun x hx e => by
          have hownx : (Value.slice a bs.length c).ownBlock = some x := by rw [← hx]; exact (dropA_own a c m 1 _ _ _ _).symm
          have := h2.lt hownx e
          simp at this; rw [this]; simp)
        have hk2 := hk1.keepA (Mod.setCell (F := fun x => x = p) w1 ⟨p, 0, none⟩ (.slice (dropA a c m 1) (bs.length - m) (c - m)) rfl) (fun x hx e => by
          have hownx : (Value.slice a bs.length c).ownBlock = some x := by rw [← hx]; exact (dropA_own a c m 1 _ _ _ _).symm
          rw [h5 x hownx (by omega)]; simp)
        simpa [List.map_drop] using hk2
      · intro x hx hBx
        have hownx : (Value.slice a bs.length c).ownBlock = some x := by rw [← hx]; exact (dropA_own a c m 1 _ _ _ _).symm
        rw [h5 x hownx hBx]; simp
    · have e0 : takeS n (some bs) = ([], none) := by unfold takeS; rw [if_neg (by simpa using hb)]
      rw [e0]
      by_cases hn : n < 0
      · go_enter Try.func39, Try.ntmps39
        go_wp2
        go_ret
        exact ⟨_, rfl, hfn, hsp, hmd⟩
      · have hn2 : (bs.length : Int) < n := by omega
        go_enter Try.func39, Try.ntmps39
        go_wp2
        go_ret
        exact ⟨_, rfl, hfn, hsp, hmd⟩

end Go.Proofs.Ytabfmnlpipbegaa
