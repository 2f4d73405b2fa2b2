/- sender's New, Over, Seq, Room, Body, by contract. -/
import Derived.Test.YtdahoecejnnjkaaSdP
import Derived.Deep.QuietTactic
import Derived.BigQuiet
namespace Go.Proofs.Ytdahoecejnnjkaa
open Go.RowKit Mile Go.Maps
set_option maxRecDepth 100000
theorem sdover_nil (w : World) : Calls Try.prog 48 #[.pointer none] w fun e w' => e = .returned (.bool true) ∧ w = w' := by
  go_enter Try.func48, Try.ntmps48
  go_wp2_with fail
  go_ret
  exact ⟨rfl, rfl⟩
theorem sdseq_nil (w : World) : Calls Try.prog 52 #[.pointer none] w fun e w' => e = .returned (.int .i64 0) ∧ w = w' := by
  go_enter Try.func52, Try.ntmps52
  go_wp2_with fail
  go_ret
  exact ⟨rfl, rfl⟩
theorem sdsend_nil (w : World) (now : Int) (a : Option Addr) (n c : Nat) : Calls Try.prog 49 #[.pointer none, .int .i64 now, .slice a n c] w fun e w' => e = .returned (.tuple #[.int .i64 0, .int .i64 6]) ∧ w = w' := by
  go_enter Try.func49, Try.ntmps49
  go_wp2_with fail
  refine (sdover_nil w).mono ?_
  rintro e w' ⟨rfl, rfl⟩
  go_wp2_with fail
  go_ret2
  exact ⟨rfl, rfl⟩
theorem sdacked_nil (w : World) (ack : Int) : Calls Try.prog 38 #[.pointer none, .int .i64 ack] w fun e w' => e = .returned (.int .i64 0) ∧ w = w' := by
  go_enter Try.func38, Try.ntmps38
  go_wp2_with fail
  go_ret
  exact ⟨rfl, rfl⟩
theorem sdnew_no (w : World) (v : Int) (tv : Option Addr) (h : ¬ (1 ≤ v ∧ v ≤ 16) ∨ tv = none) : Calls Try.prog 28 #[.int .i64 v, .pointer tv] w fun e w' => e = .returned (.tuple #[.pointer none, .int .i64 1]) ∧ w = w' := by
  by_cases h1 : v < 1
  · have z0 : decide (v < 1) = true := by simpa using h1
    clear h
    go_enter Try.func28, Try.ntmps28
    go_wp2_with fail
    go_ret2
    exact ⟨rfl, rfl⟩
  · have z0 : decide (v < 1) = false := by simpa using h1
    by_cases h2 : 16 < v
    · have z1 : decide (16 < v) = true := by simpa using h2
      clear h
      go_enter Try.func28, Try.ntmps28
      go_wp2_with fail
      go_ret2
      exact ⟨rfl, rfl⟩
    · have z1 : decide (16 < v) = false := by simpa using h2
      have h3 : tv = none := h.elim (fun x => absurd ⟨by omega, by omega⟩ x) id
      subst h3
      clear h
      go_enter Try.func28, Try.ntmps28
      go_wp2_with fail
      go_ret2
      exact ⟨rfl, rfl⟩
theorem sdnew_any (w : World) (W tp : Nat) (tb : Option Nat) (B M R : Nat) (L : List Wt) (h : TM w tp tb B M R L) (h1 : 1 ≤ W) (h2 : W ≤ 16) : Calls Try.prog 28 #[.int .i64 (W : Int), .pointer (some ⟨tp, 0, none⟩)] w fun e w' => ∃ p, e = .returned (.tuple #[.pointer (some ⟨p, 0, none⟩), .int .i64 0]) ∧ SD w' p tp tb W 0 none 0 0 false B M R L [] ∧ w.heap.size ≤ p ∧ Mod (fun _ => False) w w' := by
  have z0 : decide ((W : Int) < 1) = false := by simp; omega
  have z1 : decide (16 < (W : Int)) = false := by simp; omega
  have HT := Lib.hid h
  clear h
  go_enter Try.func28, Try.ntmps28
  go_wp2_with fail
  go_ret2
  exact ⟨w.heap.size, rfl, ⟨h1, h2, rfl, Nat.zero_le _, Blk.new w 104 [.pointer (some ⟨tp, 0, none⟩), .int .i64 (W : Int), .int .i64 0, .slice none 0 0, .bool false], HT.out.keep (Mod.alloc (fun _ => False) w _) (fun _ _ e => e), World.ownsRow_nil _ _ _ _, fun u hu => by simp at hu, fun e => by have := HT.out.lt _ e; omega, fun k hk => by cases hk⟩, Nat.le_refl _, Mod.alloc _ _ _⟩
section
variable {w : World} {p tp : Nat} {tb : Option Nat} {W F : Nat} {a : Option Addr} {n c : Nat} {over : Bool} {B M R : Nat} {L : List Wt} {us : UdL}
theorem sdover_any (h : SD w p tp tb W F a n c over B M R L us) : Calls Try.prog 48 #[.pointer (some ⟨p, 0, none⟩)] w fun e w' => e = .returned (.bool over) ∧ w = w' := by
  have c4 := h.blk.cell 4 rfl
  clear h
  go_enter Try.func48, Try.ntmps48
  go_wp2_with fail
  go_ret
  exact ⟨rfl, rfl⟩
theorem sdseq_any (h : SD w p tp tb W F a n c over B M R L us) (hF : F ≤ 1000000000000) : Calls Try.prog 52 #[.pointer (some ⟨p, 0, none⟩)] w fun e w' => e = .returned (.int .i64 ((F + n : Nat) : Int)) ∧ Mod (fun _ => False) w w' := by
  have c2 := h.blk.cell 2 rfl
  have c3 := h.blk.cell 3 rfl
  have hn := h.nW
  have hw := h.w16
  have hca : ((F + n : Nat) : Int) = (F : Int) + (n : Int) := by omega
  have HCA := Lib.hid hca
  clear h hca
  go_enter Try.func52, Try.ntmps52
  go_wp2_with fail
  go_quiet (fail)
  go_wp2_with fail
  go_ret
  exact ⟨by rw [HCA.out]; rfl, Mod.drewN _ _ _⟩
theorem sdroom_any (h : SD w p tp tb W F a n c over B M R L us) : Calls Try.prog 23 #[.pointer (some ⟨p, 0, none⟩)] w fun e w' => e = .returned (.int .i64 (if over then 0 else ((W - n : Nat) : Int))) ∧ Mod (fun _ => False) w w' := by
  have c1 := h.blk.cell 1 rfl
  have c3 := h.blk.cell 3 rfl
  have hn := h.nW
  have hw := h.w16
  have hca : ((W - n : Nat) : Int) = (W : Int) - (n : Int) := by omega
  have HCA := Lib.hid hca
  have hov := sdover_any h
  have HOV := Lib.hid hov
  clear h hca hov
  go_enter Try.func23, Try.ntmps23
  go_wp2_with fail
  refine HOV.out.mono ?_
  rintro e w' ⟨rfl, rfl⟩
  cases over with
  | true =>
    go_wp2_with fail
    go_ret
    exact ⟨rfl, Mod.refl _ _⟩
  | false =>
    go_wp2_with fail
    go_quiet (fail)
    go_wp2_with fail
    go_ret
    exact ⟨by rw [HCA.out]; rfl, Mod.drewN _ _ _⟩
end
end Go.Proofs.Ytdahoecejnnjkaa
