/- timer's New, await, Start, Stop by contract. -/
import Derived.Test.YtdahoecejnnjkaaTm1
namespace Go.Proofs.Ytdahoecejnnjkaa
open Go.RowKit Mile Go.Maps
set_option maxRecDepth 100000
theorem tmnew_no (w : World) (b m r : Int) (h : ¬ (1 ≤ b ∧ b ≤ m ∧ m ≤ 1000 ∧ 0 ≤ r ∧ r ≤ 20)) :
    Calls Try.prog 27 #[.int .i64 b, .int .i64 m, .int .i64 r] w fun e w' => e = .returned (.tuple #[.pointer none, .int .i64 1]) ∧ w = w' := by
  have HN := Lib.hid h
  clear h
  by_cases h1 : b < 1
  · have z0 : decide (b < 1) = true := by simpa using h1
    go_enter Try.func27, Try.ntmps27
    go_wp2_with fail
    go_ret2
    exact ⟨rfl, rfl⟩
  · have z0 : decide (b < 1) = false := by simpa using h1
    by_cases h2 : m < b
    · have z1 : decide (m < b) = true := by simpa using h2
      go_enter Try.func27, Try.ntmps27
      go_wp2_with fail
      go_ret2
      exact ⟨rfl, rfl⟩
    · have z1 : decide (m < b) = false := by simpa using h2
      by_cases h3 : 1000 < m
      · have z2 : decide (1000 < m) = true := by simpa using h3
        go_enter Try.func27, Try.ntmps27
        go_wp2_with fail
        go_ret2
        exact ⟨rfl, rfl⟩
      · have z2 : decide (1000 < m) = false := by simpa using h3
        by_cases h4 : r < 0
        · have z3 : decide (r < 0) = true := by simpa using h4
          go_enter Try.func27, Try.ntmps27
          go_wp2_with fail
          go_ret2
          exact ⟨rfl, rfl⟩
        · have z3 : decide (r < 0) = false := by simpa using h4
          have z4 : decide (20 < r) = true := by have := HN.out; simp; omega
          go_enter Try.func27, Try.ntmps27
          go_wp2_with fail
          go_ret2
          exact ⟨rfl, rfl⟩
theorem tmnew_any (w : World) (B M R : Nat) (h1 : 1 ≤ B) (h2 : B ≤ M) (h3 : M ≤ 1000) (h4 : R ≤ 20) :
    Calls Try.prog 27 #[.int .i64 (B : Int), .int .i64 (M : Int), .int .i64 (R : Int)] w fun e w' => ∃ p, e = .returned (.tuple #[.pointer (some ⟨p, 0, none⟩), .int .i64 0]) ∧ TM w' p none B M R [] ∧ w.heap.size ≤ p ∧ Mod (fun _ => False) w w' := by
  have z0 : decide ((B : Int) < 1) = false := by simp; omega
  have z1 : decide ((M : Int) < (B : Int)) = false := by simpa using h2
  have z1' : decide (M < B) = false := by simpa using h2
  have z2 : decide (1000 < (M : Int)) = false := by simp; omega
  have z3 : decide ((R : Int) < 0) = false := by simp
  have z4 : decide (20 < (R : Int)) = false := by simp; omega
  go_enter Try.func27, Try.ntmps27
  go_wp2_with fail
  go_ret2
  exact ⟨w.heap.size, rfl, ⟨h1, h2, h3, h4, RiseW.nil, fun e he => by simp at he, Blk.new w 107 [.int .i64 (B : Int), .int .i64 (M : Int), .int .i64 (R : Int), .map none], fun _ => rfl, fun b hb => by cases hb⟩, Nat.le_refl _, Mod.alloc _ _ _⟩
/-- What a call that turns the timer leaves. -/
def TmP (p : Nat) (mb : Option Nat) (B M R : Nat) (L : List Wt) (w w' : World) : Prop :=
  ∃ mb', TM w' p mb' B M R L ∧ (∀ k, mb' = some k → mb = some k ∨ w.heap.size ≤ k) ∧ (∀ b, mb = some b → mb' = some b) ∧ Mod (tmF p mb) w w'
set_option maxHeartbeats 4000000 in
theorem await_any (w : World) (p : Nat) (mb : Option Nat) (B M R : Nat) (L : List Wt) (h : TM w p mb B M R L) (hL : L.length ≤ 1000000000) (id now : Int) (n : Nat) (hid : (Lit.int .i64 id).wf = true) (hn : n ≤ R) (hnow : -4611686018427387904 ≤ now ∧ now ≤ 4611686018427387904) :
    Calls Try.prog 63 #[.pointer (some ⟨p, 0, none⟩), .int .i64 id, .int .i64 now, .int .i64 (n : Int)] w fun e w' => e = .returned (.tuple #[]) ∧ TmP p mb B M R (putW L ⟨id, now + (waitN B M n : Int), n⟩) w w' := by
  have hidb := (i64_wf id).1 hid
  have hnR := h.rx
  have hwl := waitN_le B M n
  have hmx := h.mx
  have hwl2 : waitN B M n ≤ 1000 := by omega
  have hrise := h.rise.put ⟨id, now + (waitN B M n : Int), n⟩
  have hids : ∀ e ∈ putW L ⟨id, now + (waitN B M n : Int), n⟩, (Lit.int .i64 e.id).wf = true ∧ e.n ≤ R := fun e he => by
    rcases mem_putW.1 he with rfl | ⟨he, _⟩
    · exact ⟨hid, hn⟩
    · exact h.ids e he
  -- the map as it stands, or made
  have hcall : ∀ (W : World) (mv : Option Nat), Blk W p 107 [.int .i64 (B : Int), .int .i64 (M : Int), .int .i64 (R : Int), .map mv] → Calls Try.prog 66 #[.pointer (some ⟨p, 0, none⟩), .int .i64 (n : Int)] W fun e w' => e = .returned (.int .i64 (waitN B M n : Int)) ∧ W = w' := fun W mv hb => by
    have := twait_at W p mv B M R h.b1 h.bm h.mx hb n ((i64_wf _).2 ⟨by omega, by omega⟩)
    rwa [Int.toNat_natCast] at this
  have HC := Lib.hid hcall
  clear hcall
  obtain ⟨wt, hwt⟩ : ∃ x, waitN B M n = x := ⟨_, rfl⟩
  rw [hwt] at hwl hwl2 hrise hids HC ⊢
  clear hwt
  have hwr : IntKind.i64.wrap (now + (wt : Int)) = now + (wt : Int) := IntWalk.i64_in _ (by omega)
  have hplt := h.blk.lt
  cases mb with
  | some b =>
    obtain ⟨hbp, hwm⟩ := h.some_ b rfl
    have c3 := h.blk.cell 3 rfl
    have hbd := h.blk.drew
    have HBD := Lib.hid hbd
    have HB := Lib.hid h
    obtain ⟨w1, hrun, hwm1, hm1⟩ := WM.put (hwm.keep (Mod.drew (fun _ => False) w) (fun e => e)) (by unfold maxLen; omega) ⟨id, now + (wt : Int), n⟩ hid
    have HW1 := Lib.hid hwm1
    have HM1 := Lib.hid hm1
    clear hbd h hwm hwm1 hm1
    have hne := fun (wx : World) => run_eql_map_nil (P := Try.prog) wx 105 3 136 (some b) Try.underlying105
    go_enter Try.func63, Try.ntmps63
    go_wp2_with fail
    go_region_with (go_at_call 66; refine (HC.out _ (some b) HBD.out).mono ?_; rintro e w' ⟨rfl, rfl⟩)
    all_goals
      go_wp2_with fail
      go_end0
      exact ⟨rfl, some b, ⟨HB.out.b1, HB.out.bm, HB.out.mx, HB.out.rx, hrise, hids, HBD.out.keep HM1.out (fun e => hbp e.symm), fun e => (by cases e), fun q hq => by cases hq; exact ⟨hbp, HW1.out⟩⟩, fun q hq => .inl hq, fun q hq => hq,
        (Mod.drew (tmF p (some b)) w).trans HM1.out (fun _ _ e => e) (fun i _ e => .inr (by rw [e]))⟩
  | none =>
    have hL0 := h.none_ rfl
    subst hL0
    have hba := h.blk.alloc (.map #[] 0)
    have c3 := h.blk.cell 3 rfl
    have c3a := hba.cell 3 rfl
    have f3a := hba.free 3
    have HB := Lib.hid h
    have hmm := @run_makeMap Try.prog
    have hne := fun (wx : World) => run_eql_map_nil (P := Try.prog) wx 105 3 136 none Try.underlying105
    have hsz0 : (w.setCell ⟨p, 3, none⟩ (.map (some w.heap.size))).heap.size = w.heap.size := by simp
    have hwm0 := WM.made (w.setCell ⟨p, 3, none⟩ (.map (some w.heap.size)))
    rw [hsz0] at hwm0
    have hbs := (h.blk.set 3 (.map (some w.heap.size))).alloc (.map #[] 0)
    have hma : Mod (fun k => k = p) w ((w.setCell ⟨p, 3, none⟩ (.map (some w.heap.size))).alloc (.map #[] 0)) := (Mod.setCell (F := fun k => k = p) w ⟨p, 3, none⟩ _ rfl).thenAlloc _
    have HMA := Lib.hid hma
    have HWM0 := Lib.hid hwm0
    have HBS := Lib.hid hbs
    clear hba h hsz0 hwm0 hbs hma
    go_enter Try.func63, Try.ntmps63
    go_upto_region 2 with fail
    obtain ⟨b, hb⟩ : ∃ b, w.heap.size = b := ⟨_, rfl⟩
    obtain ⟨wa, hwa⟩ : ∃ x, (w.setCell ⟨p, 3, none⟩ (.map (some w.heap.size))).alloc (.map #[] 0) = x := ⟨_, rfl⟩
    rw [hwa] at HMA HWM0 HBS ⊢
    rw [hb] at HWM0 HBS hplt ⊢
    have HSZ := Lib.hid hb
    clear hwa c3 c3a f3a hb
    have hbp : b ≠ p := by omega
    have c3 := HBS.out.cell 3 rfl
    obtain ⟨w1, hrun, hwm1, hm1⟩ := WM.put (HWM0.out.keep (Mod.drew (fun _ => False) wa) (fun e => e)) (by simp [maxLen]) ⟨id, now + (wt : Int), n⟩ hid
    have HBD := Lib.hid HBS.out.drew
    have HW1 := Lib.hid hwm1
    have HM1 := Lib.hid hm1
    clear hwm1 hm1
    go_wp2_with fail
    go_region_with (go_at_call 66; refine (HC.out _ (some b) HBD.out).mono ?_; rintro e w' ⟨rfl, rfl⟩)
    all_goals
      go_wp2_with fail
      go_end0
      exact ⟨rfl, some b, ⟨HB.out.b1, HB.out.bm, HB.out.mx, HB.out.rx, hrise, hids, HBD.out.keep HM1.out (fun e => hbp e.symm), fun e => (by cases e), fun q hq => by cases hq; exact ⟨hbp, HW1.out⟩⟩, fun q hq => .inr (by cases hq; rw [HSZ.out]; exact Nat.le_refl _), fun q hq => (by cases hq),
        (HMA.out.trans (Mod.drew (fun _ => False) wa) (fun _ _ e => e) (fun _ _ e => e.elim)).trans HM1.out (fun _ _ e => .inl e) (fun i hi e => by have := HSZ.out; omega)⟩
theorem tstart_any (w : World) (p : Nat) (mb : Option Nat) (B M R : Nat) (L : List Wt) (h : TM w p mb B M R L) (hL : L.length ≤ 1000000000) (id now : Int) (hid : (Lit.int .i64 id).wf = true) (hnow : -4611686018427387904 ≤ now ∧ now ≤ 4611686018427387904) :
    Calls Try.prog 60 #[.pointer (some ⟨p, 0, none⟩), .int .i64 id, .int .i64 now] w fun e w' => e = .returned (.tuple #[]) ∧ TmP p mb B M R (putW L ⟨id, now + (B : Int), 0⟩) w w' := by
  have hcall := await_any w p mb B M R L h hL id now 0 hid (Nat.zero_le _) hnow
  rw [waitN_zero h.bm] at hcall
  clear h
  go_enter Try.func60, Try.ntmps60
  go_wp2_with fail
  refine hcall.mono ?_
  rintro e w' ⟨rfl, h⟩
  go_wp2_with fail
  go_end0
  exact ⟨rfl, h⟩
theorem tstart_nil (w : World) (id now : Int) : Calls Try.prog 60 #[.pointer none, .int .i64 id, .int .i64 now] w fun e w' => e = .returned (.tuple #[]) ∧ w = w' := by
  go_enter Try.func60, Try.ntmps60
  go_wp2_with fail
  go_end0
  exact ⟨rfl, rfl⟩
end Go.Proofs.Ytdahoecejnnjkaa
