/- Out and In, as the laws ask for them. -/
import Derived.Test.YtbjdjafkpldbnaaLawN
import Derived.Test.YtbjdjafkpldbnaaGr8b
namespace Go.Proofs.Ytbjdjafkpldbnaa
open Go.RowKit Mile
theorem out_row (p B C : Nat) (w : World) (G : GD) (h : GO w p B C G) (v : Int) :
    Calls Try.prog 68 #[.pointer (some ⟨p, 0, none⟩), .int .i64 v] w fun e w' => ∃ x, e = .returned x ∧ IRow (gOut G v) x w' ∧ Mod (fun _ => False) w w' :=
  (out_any p B C w G h v).mono fun _ _ ⟨a, c, he, ho, hm⟩ => by
    by_cases hc : 0 ≤ v ∧ v < (G.N.length : Int)
    · simp only [if_pos hc] at he ho
      exact ⟨_, he, ⟨a, c, by unfold gOut; rw [if_pos hc], by unfold gOut; rw [if_pos hc]; exact Rd.ofOwn ho⟩, hm⟩
    · simp only [if_neg hc] at he ho
      exact ⟨_, he, ⟨a, c, by unfold gOut; rw [if_neg hc]; rfl, by unfold gOut; rw [if_neg hc]; exact Rd.ofOwn ho⟩, hm⟩
theorem in_row (p B C : Nat) (w : World) (G : GD) (h : GO w p B C G) (v : Int) :
    Calls Try.prog 26 #[.pointer (some ⟨p, 0, none⟩), .int .i64 v] w fun e w' => ∃ x, e = .returned x ∧ IRow (gIn G v) x w' ∧ Mod (fun _ => False) w w' :=
  (in_any p B C w G h v).mono fun _ _ ⟨a, c, he, ho, hm⟩ => by
    by_cases hc : 0 ≤ v ∧ v < (G.N.length : Int)
    · simp only [if_pos hc] at he ho
      exact ⟨_, he, ⟨a, c, by unfold gIn; rw [if_pos hc], by unfold gIn; rw [if_pos hc]; exact Rd.ofOwn ho⟩, hm⟩
    · simp only [if_neg hc] at he ho
      exact ⟨_, he, ⟨a, c, by unfold gIn; rw [if_neg hc]; rfl, by unfold gIn; rw [if_neg hc]; exact Rd.ofOwn ho⟩, hm⟩
theorem out_own (p B C : Nat) (w : World) (G : GD) (h : GO w p B C G) (v : Int) (n : Nat) (hn : (gOut G v).length = n) (h0 : 0 < n) :
    Calls Try.prog 68 #[.pointer (some ⟨p, 0, none⟩), .int .i64 v] w fun e w' => ∃ ob c, e = .returned (.slice (some ⟨ob, 0, none⟩) n c) ∧ w.heap.size ≤ ob ∧ Room w' ob 3 0 ∧ Mod (fun _ => False) w w' :=
  (out_any p B C w G h v).mono fun _ _ ⟨a, c, he, ho, hm⟩ => by
    by_cases hc : 0 ≤ v ∧ v < (G.N.length : Int)
    · simp only [if_pos hc] at he ho
      unfold gOut at hn
      rw [if_pos hc] at hn
      rw [hn] at he ho
      obtain ⟨g, c', e1, l1, _⟩ := own_block ho h0
      cases e1
      exact ⟨g, _, he, l1, Room.ofOwn ho 0 (by omega), hm⟩
    · unfold gOut at hn
      rw [if_neg hc] at hn
      simp at hn
      omega
end Go.Proofs.Ytbjdjafkpldbnaa
