/- The timer: its memory; New, Wait, Len by contract. -/
import Derived.Test.YtdahoecejnnjkaaTmP
import Derived.Test.YtdahoecejnnjkaaRows
import Derived.Test.YtdahoecejnnjkaaEv
import Derived.Test.YtdahoecejnnjkaaEvF
import Derived.Maps.RangeWalk
import Derived.Deep.DeepCutAuto
import Derived.Deep.CutBlock
import Derived.Lib.Hide
namespace Go.Proofs.Ytdahoecejnnjkaa
open Go.RowKit Mile Go.Maps
set_option maxRecDepth 100000
theorem Tm.zeroW (w : World) : (zeroValue 136).run Try.prog w = .ok (.agg #[.int .i64 0, .int .i64 0]) w := by kernel_rfl
theorem Tm.key : Keyed Try.prog 3 := int_keyed Try.underlying3
/-- Block b is the map that holds L. -/
def WM (w : World) (b : Nat) (L : List Wt) : Prop := w.ownsMap (H := Unit) Try.prog 3 waitR b L.length (tmD L)
theorem WM.lt {w : World} {b : Nat} {L : List Wt} (h : WM w b L) : b < w.heap.size := World.ownsMap.lt h
theorem WM.keep {w w' : World} {b : Nat} {L : List Wt} {G : Nat → Prop} (h : WM w b L) (hm : Mod G w w') (hb : ¬ G b) : WM w' b L := by
  have hlt := h.lt
  obtain ⟨es, clock, hbk, F, hs, hD⟩ := h
  exact ⟨es, clock, (hm.block b hlt hb).trans hbk, F, hs, hD⟩
theorem WM.made (w : World) : WM (w.alloc (.map #[] 0)) w.heap.size [] := World.ownsMap_made _ _ _ _
theorem own_tightW {w : World} {b n : Nat} {D : DataW Unit} (h : w.ownsMap Try.prog 3 waitR b n D) : w.ownsMap Try.prog 3 waitR b (Maps.size D) D := by
  obtain ⟨es, clock, hb, F, hs, rfl⟩ := h
  exact ⟨es, clock, hb, F, by simp [Maps.size, length_sorted], rfl⟩
/-- 'm[k]' of one that is there. -/
theorem WM.look {w : World} {b : Nat} {A : List Wt} {e : Wt} {Q : List Wt} (h : WM w b (A ++ e :: Q)) (hr : RiseW (A ++ e :: Q)) (hw : (Lit.int .i64 e.id).wf = true) :
    (Instr.lookup 105 (.map (some b)) (.int .i64 e.id) false).run Try.prog w = .ok (.agg #[.int .i64 e.due, .int .i64 (e.n : Int)]) w := by
  obtain ⟨es, clock, hb, F, _, hD⟩ := h
  have hat := tmD_at (A ++ e :: Q) e.id (.agg [])
  rw [findW_mid hr, hD] at hat
  rcases Maps.fit_look false Tm.key Try.underlying105 (Tm.zeroW w) hb F (Maps.keyOf_int_mk Try.underlying3 hw) with ⟨_, hno, hat2⟩ | ⟨e0, y, _, _, hrun, hRv, hat2, _⟩
  · rw [hat2] at hat
    cases hat
  · rw [hat2] at hat
    obtain ⟨a, c, ha, hy⟩ := waitR_inv hRv
    rw [hy] at hat
    have h1 : (DataW.agg [.lit (.int .i64 a), .lit (.int .i64 c)] : DataW Unit) = (tmE e).2 := hat
    injection h1 with h1
    injection h1 with h1 h2
    injection h1 with h1
    injection h1 with _ h1
    injection h2 with h2
    injection h2 with h2
    injection h2 with _ h2
    rw [ha, h1, h2] at hrun
    simpa using hrun
theorem WM.put {w : World} {b : Nat} {L : List Wt} (h : WM w b L) (hl : L.length < maxLen) (x : Wt) (hw : (Lit.int .i64 x.id).wf = true) :
    ∃ w', (Instr.mapUpdate 105 (.map (some b)) (.int .i64 x.id) (.agg #[.int .i64 x.due, .int .i64 (x.n : Int)])).run Try.prog w = .ok () w' ∧ WM w' b (putW L x) ∧ Mod (fun i => i = b) w w' := by
  obtain ⟨w', hrun, hown, hg⟩ := World.ownsMap.update h Tm.key Try.underlying105 hl (Maps.keyOf_int_mk Try.underlying3 hw) (waitR_mk x.due x.n)
  have e : (tmD L).put (.int .i64 x.id) (.agg [.lit (.int .i64 x.due), .lit (.int .i64 x.n)]) = tmD (putW L x) := tmD_put L x
  rw [e] at hown
  have hown2 := own_tightW hown
  rw [tmD_size] at hown2
  exact ⟨w', hrun, hown2, (Mod.ofGrown hg).mono (fun i _ h => (Option.some.inj h).symm)⟩
theorem WM.drop {w : World} {b : Nat} {L : List Wt} (h : WM w b L) (k : Int) (hw : (Lit.int .i64 k).wf = true) (ty : TypeId) :
    ∃ w', (Builtin.delete_ #[105, 3] ty #[.map (some b), .int .i64 k]).run Try.prog w = .ok (.tuple #[]) w' ∧ WM w' b (stopW L k) ∧ Mod (fun i => i = b) w w' := by
  obtain ⟨w', hrun, hown, hg⟩ := World.ownsMap.drop h Tm.key Try.underlying105 (Maps.keyOf_int_mk Try.underlying3 hw) ty
  rw [tmD_del] at hown
  have hown2 := own_tightW hown
  rw [tmD_size] at hown2
  exact ⟨w', hrun, hown2, (Mod.ofGrown hg.grown).mono (fun i _ h => (Option.some.inj h).symm)⟩
theorem WM.len {w : World} {b : Nat} {L : List Wt} (h : WM w b L) (ty : TypeId) : (Builtin.len_ #[105] ty #[.map (some b)]).run Try.prog w = .ok (.int .i64 (L.length : Int)) w := by
  have := World.ownsMap.len h Try.underlying105 ty
  rwa [tmD_size] at this
/-- A timer.Timer at block p, its map at block mb (or none yet): L is waited for. -/
structure TM (w : World) (p : Nat) (mb : Option Nat) (B M R : Nat) (L : List Wt) : Prop where
  b1 : 1 ≤ B
  bm : B ≤ M
  mx : M ≤ 1000
  rx : R ≤ 20
  rise : RiseW L
  ids : ∀ e ∈ L, (Lit.int .i64 e.id).wf = true ∧ e.n ≤ R
  blk : Blk w p 107 [.int .i64 (B : Int), .int .i64 (M : Int), .int .i64 (R : Int), .map mb]
  none_ : mb = none → L = []
  some_ : ∀ b, mb = some b → b ≠ p ∧ WM w b L
def tmF (p : Nat) (mb : Option Nat) : Nat → Prop := fun k => k = p ∨ mb = some k
theorem TM.keep {w w' : World} {p : Nat} {mb : Option Nat} {B M R : Nat} {L : List Wt} {G : Nat → Prop} (h : TM w p mb B M R L) (hm : Mod G w w') (hG : ∀ k, tmF p mb k → ¬ G k) : TM w' p mb B M R L :=
  ⟨h.b1, h.bm, h.mx, h.rx, h.rise, h.ids, h.blk.keep hm (hG p (.inl rfl)), h.none_, fun b hb => ⟨(h.some_ b hb).1, (h.some_ b hb).2.keep hm (hG b (.inr hb))⟩⟩
theorem TM.lt {w : World} {p : Nat} {mb : Option Nat} {B M R : Nat} {L : List Wt} (h : TM w p mb B M R L) : ∀ k, tmF p mb k → k < w.heap.size := fun k hk => by
  rcases hk with e | e
  · subst e; exact h.blk.lt
  · exact (h.some_ k e).2.lt
theorem Ev.tm {w : World} {p : Nat} {mb : Option Nat} {B M R : Nat} {L : List Wt} (h : TM w p mb B M R L) : Ev (fun W => TM W p mb B M R L) w := fun _ m => h.keep m (fun _ _ e => e)
theorem twait_nil (w : World) (k : Int) : Calls Try.prog 66 #[.pointer none, .int .i64 k] w fun e w' => e = .returned (.int .i64 0) ∧ w = w' := by
  go_enter Try.func66, Try.ntmps66
  go_wp2
  go_ret
  exact ⟨rfl, rfl⟩
theorem twait_at (w : World) (p : Nat) (mv : Option Nat) (B M R : Nat) (hB : 1 ≤ B) (hM : B ≤ M) (hx : M ≤ 1000) (h : Blk w p 107 [.int .i64 (B : Int), .int .i64 (M : Int), .int .i64 (R : Int), .map mv]) (n : Int) (hn : (Lit.int .i64 n).wf = true) :
    Calls Try.prog 66 #[.pointer (some ⟨p, 0, none⟩), .int .i64 n] w fun e w' => e = .returned (.int .i64 (waitN B M n.toNat : Int)) ∧ w = w' := by
  have c0 := h.cell 0 rfl
  have c1 := h.cell 1 rfl
  rw [i64_wf] at hn
  clear h
  go_enter Try.func66, Try.ntmps66
  go_wp2_with fail
  go_loopw [1, 5] (fun nv lv wr => ∃ (k : Int) (b : Nat), nv = .int .i64 k ∧ lv = .int .i64 (b : Int) ∧ k ≤ n ∧ (0 ≤ k ∨ k = n) ∧ 1 ≤ b ∧ b ≤ 2000 ∧ dbl M k.toNat b = dbl M n.toNat B ∧ w = wr) (fun nv _ _ => (intOf nv).toNat)
  case atStart => exact ⟨n, B, rfl, rfl, Int.le_refl _, .inr rfl, hB, by omega, rfl, rfl⟩
  case round =>
    obtain ⟨k, b, rfl, rfl, hk, hk2, h1, h2, h3, rfl⟩ := hrel
    have H3 := Lib.hid h3
    clear h3
    by_cases hc : 0 < k ∧ b < M
    case pos =>
      have z0 : decide (0 < k) = true := by simpa using hc.1
      have z1 : decide ((b : Int) < (M : Int)) = true := by simpa using hc.2
      have z2 : decide (b < M) = true := by simpa using hc.2
      go_wp2_with fail
      go_roundw
      case rel => exact ⟨k - 1, 2 * b, by go_num, by go_num, by omega, by omega, by omega, by omega, by rw [← H3.out, show k.toNat = (k - 1).toNat + 1 by omega, dbl_step hc.2], trivial⟩
      case measure => simp [intOf]; omega
    case neg =>
      have hd : dbl M n.toNat B = b := by
        rw [← H3.out]
        by_cases h0 : 0 < k
        · exact dbl_stop (by omega) _
        · rw [show k.toNat = 0 by omega]; rfl
      have hwn : waitN B M n.toNat = min b M := by unfold waitN; rw [hd]
      have HW := Lib.hid hwn
      clear hd hwn
      have HC := Lib.hid hc
      clear hc
      by_cases h0 : 0 < k
      · have z0 : decide (0 < k) = true := by simpa using h0
        have z1 : decide ((b : Int) < (M : Int)) = false := by have := HC.out; simp; omega
        have z2 : decide (b < M) = false := by have := HC.out; simp; omega
        go_wp2_with fail
        all_goals (go_ret; exact ⟨by first | (rw [HW.out, Nat.min_eq_left (by omega)]; rfl) | (rw [HW.out, Nat.min_eq_right (by omega)]; rfl), rfl⟩)
      · have z0 : decide (0 < k) = false := by simpa using h0
        go_wp2_with fail
        all_goals (go_ret; exact ⟨by first | (rw [HW.out, Nat.min_eq_left (by omega)]; rfl) | (rw [HW.out, Nat.min_eq_right (by omega)]; rfl), rfl⟩)
theorem twait_any (w : World) (p : Nat) (mb : Option Nat) (B M R : Nat) (L : List Wt) (h : TM w p mb B M R L) (n : Int) (hn : (Lit.int .i64 n).wf = true) :
    Calls Try.prog 66 #[.pointer (some ⟨p, 0, none⟩), .int .i64 n] w fun e w' => e = .returned (.int .i64 (waitN B M n.toNat : Int)) ∧ w = w' :=
  twait_at w p mb B M R h.b1 h.bm h.mx h.blk n hn
end Go.Proofs.Ytdahoecejnnjkaa
