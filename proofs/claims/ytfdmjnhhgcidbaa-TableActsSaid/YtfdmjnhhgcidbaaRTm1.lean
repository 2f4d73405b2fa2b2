/- The reference's Timer: its memory; within, NewTimer, Wait, Stop by contract. -/
import Derived.Test.YtfdmjnhhgcidbaaTmP
import Derived.Test.YtfdmjnhhgcidbaaRows
import Derived.Test.YtfdmjnhhgcidbaaEv
import Derived.Test.YtfdmjnhhgcidbaaShp
import Derived.Deep.DeepCutAuto
import Derived.Deep.CutBlock
import Derived.Lib.Hide
namespace Go.Proofs.Ytfdmjnhhgcidbaa
open Go.RowKit Mile Go.Maps
set_option maxRecDepth 100000
theorem RT.infoW : (Try.prog.info? 192).map (fun i => (i.zero, i.size, i.bytes)) = some (some (.agg #[.int .i64 0, .int .i64 0, .int .i64 0]), 3, 24) := by kernel_rfl
def c3W (e : Wt) : List Value := [.int .i64 e.id, .int .i64 e.due, .int .i64 (e.n : Int)]
theorem c3W_len (L : List Wt) : (L.flatMap c3W).length = L.length * 3 := by
  induction L with
  | nil => rfl
  | cons x l ih => rw [List.flatMap_cons, List.length_append, ih, List.length_cons]; simp [c3W]; omega
theorem c3W_at : ∀ (L : List Wt) (i : Nat) (hi : i < L.length), (L.flatMap c3W)[i * 3 + 0]? = some (.int .i64 L[i].id) ∧ (L.flatMap c3W)[i * 3 + 1]? = some (.int .i64 L[i].due) ∧ (L.flatMap c3W)[i * 3 + 2]? = some (.int .i64 (L[i].n : Int))
  | [], i, hi => by simp at hi
  | x :: l, 0, hi => by simp [c3W]
  | x :: l, i + 1, hi => by
    have := c3W_at l i (by simpa using hi)
    rw [List.flatMap_cons, List.getElem?_append_right (by simp [c3W]; omega), List.getElem?_append_right (by simp [c3W]; omega), List.getElem?_append_right (by simp [c3W]; omega)]
    simp only [List.getElem_cons_succ]
    rw [show (i + 1) * 3 + 0 - (c3W x).length = i * 3 + 0 by simp [c3W]; omega, show (i + 1) * 3 + 1 - (c3W x).length = i * 3 + 1 by simp [c3W]; omega, show (i + 1) * 3 + 2 - (c3W x).length = i * 3 + 2 by simp [c3W]; omega]
    exact this
theorem rd3w {w : World} {n c : Nat} {a : Option Addr} {L : List Wt} (h : Rd w 3 (.slice a n c) n (L.flatMap c3W)) (i : Nat) (hi : i < L.length) :
    ∃ b o, elemA a i 3 = ⟨b, o, none⟩ ∧ w.cell? ⟨b, o, none⟩ = some (.int .i64 L[i].id) ∧ w.cell? ⟨b, o + 1, none⟩ = some (.int .i64 L[i].due) ∧ w.cell? ⟨b, o + 2, none⟩ = some (.int .i64 (L[i].n : Int)) := by
  have hn : n = L.length := by have := h.1; rw [c3W_len] at this; omega
  obtain ⟨b, o, hp, _⟩ := h.place (j := i) (by omega)
  have hg := c3W_at L i hi
  exact ⟨b, o, hp, by have := h.elemN hp 0 hg.1; simpa using this, h.elemN hp 1 hg.2.1, h.elemN hp 2 hg.2.2⟩
/-- The reference's Timer at block q, its row v: L is waited for. -/
structure RT (w : World) (q : Nat) (a : Option Addr) (n c : Nat) (B M R : Nat) (L : List Wt) : Prop where
  b1 : 1 ≤ B
  bm : B ≤ M
  mx : M ≤ 1000
  rx : R ≤ 20
  len : L.length = n
  blk : Blk w q 168 [.int .i64 (B : Int), .int .i64 (M : Int), .int .i64 (R : Int), .slice a n c]
  rd : Rd w 3 (.slice a n c) n (L.flatMap c3W)
  ne : ∀ k, (Value.slice a n c).ownBlock = some k → k = q → n = 0
theorem rt_nil {L : List Wt} (h : L.length = 0) : L.flatMap c3W = [] := by cases L with | nil => rfl | cons x l => cases h
theorem RT.keep {w w' : World} {q : Nat} {a : Option Addr} {n c B M R : Nat} {L : List Wt} {G : Nat → Prop} (h : RT w q a n c B M R L) (hm : Mod G w w') (hq : ¬ G q) (hv : ∀ k, (Value.slice a n c).ownBlock = some k → G k → n = 0) : RT w' q a n c B M R L :=
  ⟨h.b1, h.bm, h.mx, h.rx, h.len, h.blk.keep hm hq, h.rd.keepA hm (fun k hk e => rt_nil (by rw [h.len]; exact hv k hk e)), h.ne⟩
theorem Ev.rt {w : World} {q : Nat} {a : Option Addr} {n c B M R : Nat} {L : List Wt} (h : RT w q a n c B M R L) : Ev (fun W => RT W q a n c B M R L) w := fun _ m => h.keep m (fun e => e) (fun _ _ e => e.elim)
theorem rwithin_is (w : World) (n a b : Int) (r : Bool) (h : (decide (a ≤ n) && decide (n ≤ b)) = r) : Calls Try.prog 48 #[.int .i64 n, .int .i64 a, .int .i64 b] w fun e w' => e = .returned (.bool r) ∧ w = w' := by
  by_cases h1 : a ≤ n
  · have z0 : decide (a ≤ n) = true := by simpa using h1
    rw [z0, Bool.true_and] at h
    clear h1
    go_enter Try.func48, Try.ntmps48
    go_wp2_with fail
    go_ret
    exact ⟨rfl, rfl⟩
  · have z0 : decide (a ≤ n) = false := by simpa using h1
    rw [z0, Bool.false_and] at h
    subst h
    clear h1
    go_enter Try.func48, Try.ntmps48
    go_wp2_with fail
    go_ret
    exact ⟨rfl, rfl⟩
theorem rtnew_no (w : World) (b m r : Int) (h : ¬ (1 ≤ b ∧ b ≤ m ∧ m ≤ 1000 ∧ 0 ≤ r ∧ r ≤ 20)) :
    Calls Try.prog 54 #[.int .i64 b, .int .i64 m, .int .i64 r] w fun e w' => e = .returned (.pointer none) ∧ w = w' := by
  have HN := Lib.hid h
  clear h
  by_cases h1 : (decide (1 ≤ b) && decide (b ≤ 1000)) = true
  · by_cases h2 : (decide (b ≤ m) && decide (m ≤ 1000)) = true
    · have h3 : (decide (0 ≤ r) && decide (r ≤ 20)) = false := by have := HN.out; simp at h1 h2; by_cases hx : 0 ≤ r <;> simp [hx]; omega
      have H1 := Lib.hid h1
      have H2 := Lib.hid h2
      have H3 := Lib.hid h3
      clear h1 h2 h3
      go_enter Try.func54, Try.ntmps54
      go_wp2_with fail
      refine (rwithin_is _ _ _ _ _ H1.out).mono ?_
      rintro e w' ⟨rfl, rfl⟩
      go_wp2_with fail
      refine (rwithin_is _ _ _ _ _ H2.out).mono ?_
      rintro e w' ⟨rfl, rfl⟩
      go_wp2_with fail
      refine (rwithin_is _ _ _ _ _ H3.out).mono ?_
      rintro e w' ⟨rfl, rfl⟩
      go_wp2_with fail
      go_ret
      exact ⟨rfl, rfl⟩
    · have H1 := Lib.hid h1
      have H2 := Lib.hid (Bool.not_eq_true _ ▸ h2)
      clear h1 h2
      go_enter Try.func54, Try.ntmps54
      go_wp2_with fail
      refine (rwithin_is _ _ _ _ _ H1.out).mono ?_
      rintro e w' ⟨rfl, rfl⟩
      go_wp2_with fail
      refine (rwithin_is _ _ _ _ false (by have := H2.out; simpa using this)).mono ?_
      rintro e w' ⟨rfl, rfl⟩
      go_wp2_with fail
      go_ret
      exact ⟨rfl, rfl⟩
  · have H1 : Hid ((decide (1 ≤ b) && decide (b ≤ 1000)) = false) := Lib.hid (by simpa using h1)
    clear h1
    go_enter Try.func54, Try.ntmps54
    go_wp2_with fail
    refine (rwithin_is _ _ _ _ _ H1.out).mono ?_
    rintro e w' ⟨rfl, rfl⟩
    go_wp2_with fail
    go_ret
    exact ⟨rfl, rfl⟩
theorem rtnew_any (w : World) (B M R : Nat) (h1 : 1 ≤ B) (h2 : B ≤ M) (h3 : M ≤ 1000) (h4 : R ≤ 20) :
    Calls Try.prog 54 #[.int .i64 (B : Int), .int .i64 (M : Int), .int .i64 (R : Int)] w fun e w' => ∃ q, e = .returned (.pointer (some ⟨q, 0, none⟩)) ∧ RT w' q none 0 0 B M R [] ∧ w.heap.size ≤ q ∧ Mod (fun _ => False) w w' := by
  have H1 : Hid ((decide (1 ≤ (B : Int)) && decide ((B : Int) ≤ 1000)) = true) := Lib.hid (by simp; omega)
  have H2 : Hid ((decide ((B : Int) ≤ (M : Int)) && decide ((M : Int) ≤ 1000)) = true) := Lib.hid (by simp; omega)
  have H3 : Hid ((decide (0 ≤ (R : Int)) && decide ((R : Int) ≤ 20)) = true) := Lib.hid (by simp; omega)
  go_enter Try.func54, Try.ntmps54
  go_wp2_with fail
  refine (rwithin_is _ _ _ _ _ H1.out).mono ?_
  rintro e w' ⟨rfl, rfl⟩
  go_wp2_with fail
  refine (rwithin_is _ _ _ _ _ H2.out).mono ?_
  rintro e w' ⟨rfl, rfl⟩
  go_wp2_with fail
  refine (rwithin_is _ _ _ _ _ H3.out).mono ?_
  rintro e w' ⟨rfl, rfl⟩
  go_wp2_with fail
  go_ret
  exact ⟨w.heap.size, rfl, ⟨h1, h2, h3, h4, rfl, Blk.new w 168 [.int .i64 (B : Int), .int .i64 (M : Int), .int .i64 (R : Int), .slice none 0 0], Rd.nil _ _, fun k hk => (by cases hk)⟩, Nat.le_refl _, Mod.alloc _ _ _⟩
theorem rtwait_at (w : World) (p : Nat) (sv : Value) (B M R : Nat) (hB : 1 ≤ B) (hM : B ≤ M) (hx : M ≤ 1000) (h : Blk w p 168 [.int .i64 (B : Int), .int .i64 (M : Int), .int .i64 (R : Int), sv]) (n : Int) (hn : (Lit.int .i64 n).wf = true) :
    Calls Try.prog 94 #[.pointer (some ⟨p, 0, none⟩), .int .i64 n] w fun e w' => e = .returned (.int .i64 (waitN B M n.toNat : Int)) ∧ w = w' := by
  have c0 := h.cell 0 rfl
  have c1 := h.cell 1 rfl
  rw [i64_wf] at hn
  clear h
  go_enter Try.func94, Try.ntmps94
  go_wp2_with fail
  go_loopw [5, 6] (fun lv nv wr => ∃ (k b : Nat), nv = .int .i64 k ∧ lv = .int .i64 (b : Int) ∧ k ≤ n.toNat ∧ 1 ≤ b ∧ b ≤ 2000 ∧ dbl M (n.toNat - k) b = dbl M n.toNat B ∧ w = wr) (fun _ nv _ => n.toNat - (intOf nv).toNat)
  case atStart => exact ⟨0, B, rfl, rfl, Nat.zero_le _, hB, by omega, rfl, rfl⟩
  case round =>
    obtain ⟨k, b, rfl, rfl, hk, h1, h2, h3, rfl⟩ := hrel
    have H3 := Lib.hid h3
    clear h3
    by_cases hc : k < n.toNat ∧ b < M
    case pos =>
      have z0 : decide ((k : Int) < n) = true := by simp; omega
      have z1 : decide ((b : Int) < (M : Int)) = true := by simpa using hc.2
      have z2 : decide (b < M) = true := by simpa using hc.2
      go_wp2_with fail
      go_roundw
      case rel => exact ⟨k + 1, 2 * b, by go_num, by go_num, by omega, by omega, by omega, by rw [← H3.out, show n.toNat - k = (n.toNat - (k + 1)) + 1 by omega, dbl_step hc.2], trivial⟩
      case measure => simp [intOf]; omega
    case neg =>
      have hd : dbl M n.toNat B = b := by
        rw [← H3.out]
        by_cases h0 : k < n.toNat
        · exact dbl_stop (by omega) _
        · rw [show n.toNat - k = 0 by omega]; rfl
      have hwn : waitN B M n.toNat = min b M := by unfold waitN; rw [hd]
      have HW := Lib.hid hwn
      clear hd hwn
      have HC := Lib.hid hc
      clear hc
      by_cases h0 : (k : Int) < n
      · have z0 : decide ((k : Int) < n) = true := by simpa using h0
        have z1 : decide ((b : Int) < (M : Int)) = false := by have := HC.out; simp; omega
        have z2 : decide (b < M) = false := by have := HC.out; simp; omega
        go_wp2_with fail
        all_goals (go_ret; exact ⟨by first | (rw [HW.out, Nat.min_eq_left (by omega)]; rfl) | (rw [HW.out, Nat.min_eq_right (by omega)]; rfl), rfl⟩)
      · have z0 : decide ((k : Int) < n) = false := by simpa using h0
        go_wp2_with fail
        all_goals (go_ret; exact ⟨by first | (rw [HW.out, Nat.min_eq_left (by omega)]; rfl) | (rw [HW.out, Nat.min_eq_right (by omega)]; rfl), rfl⟩)
end Go.Proofs.Ytfdmjnhhgcidbaa
