/- Law 24: one timer with one number; TimerAnew by contract. -/
import Derived.Test.YtncjmdpepdfjbaaAwake24
import Derived.Test.YtncjmdpepdfjbaaIRowP
import Derived.Test.YtncjmdpepdfjbaaOpens
import Derived.Test.YtncjmdpepdfjbaaRound
namespace Go.Proofs.Ytncjmdpepdfjbaa
open Go.RowKit Mile Go.Maps
set_option maxRecDepth 100000
theorem waitN_same {B : Nat} (k : Nat) : waitN B B k = B := by
  have h1 := waitN_le B B k
  have h2 := waitN_ge (Nat.le_refl B) k
  omega
/-- The timer at block p, made since w0. -/
def T1 (w0 w : World) (p B M R : Nat) (L : List Wt) : Prop := ∃ mb, TM w p mb B M R L ∧ (∀ k, tmF p mb k → w0.heap.size ≤ k) ∧ Mod (fun _ => False) w0 w
section
variable {w0 w : World} {p B M R : Nat} {L : List Wt}
theorem T1.mod (h : T1 w0 w p B M R L) : Mod (fun _ => False) w0 w := by obtain ⟨_, _, _, h⟩ := h; exact h
theorem T1.keep {w' : World} (h : T1 w0 w p B M R L) (hm : Mod (fun _ => False) w w') : T1 w0 w' p B M R L := by
  obtain ⟨mb, h1, h2, h3⟩ := h
  exact ⟨mb, h1.keep hm (fun _ _ e => e), h2, h3.of2 hm⟩
theorem T1.made {w1 : World} (h1 : TM w1 p none B M R []) (hp : w0.heap.size ≤ p) (hm1 : Mod (fun _ => False) w0 w1) : T1 w0 w1 p B M R [] :=
  ⟨none, h1, fun k hk => hk.elim (fun e => by omega) (fun e => by cases e), hm1⟩
theorem T1.turn {w' : World} {mb mb' : Option Nat} {L' : List Wt} (h2 : ∀ k, tmF p mb k → w0.heap.size ≤ k) (h3 : Mod (fun _ => False) w0 w) (t : TM w' p mb' B M R L') (hmb : ∀ k, mb' = some k → mb = some k ∨ w.heap.size ≤ k) (hm : Mod (tmF p mb) w w') : T1 w0 w' p B M R L' :=
  ⟨mb', t, fun k hk => by
    have := h3.size
    rcases hk with e | e
    · exact h2 k (.inl e)
    · rcases hmb k e with x | x
      · exact h2 k (.inr x)
      · omega, h3.old hm (fun k hk => h2 k hk)⟩
theorem t1_start (h : T1 w0 w p B M R L) (hL : L.length ≤ 1000000) (id now : Int) (hid : (Lit.int .i64 id).wf = true) (hnow : 0 ≤ now ∧ now ≤ 1048576) :
    Calls Try.prog 13 #[.pointer (some ⟨p, 0, none⟩), .int .i64 id, .int .i64 now] w fun e w' => e = .returned (.tuple #[]) ∧ T1 w0 w' p B M R (putW L ⟨id, now + (B : Int), 0⟩) := by
  obtain ⟨mb, h1, h2, h3⟩ := h
  refine (tstart_any w p mb B M R L h1 (by omega) id now hid (by omega)).mono ?_
  rintro e w' ⟨he, mb', t, hmb, _, hm⟩
  exact ⟨he, T1.turn h2 h3 t hmb hm⟩
theorem t1_len (h : T1 w0 w p B M R L) : Calls Try.prog 20 #[.pointer (some ⟨p, 0, none⟩)] w fun e w' => e = .returned (.int .i64 (L.length : Int)) ∧ w = w' := by
  obtain ⟨mb, h1, h2, h3⟩ := h
  exact tlen_any w p mb B M R L h1
/-- Due, by what it comes to. -/
theorem t1_due (h : T1 w0 w p B M R L) (hL : L.length ≤ 1000000) (now : Int) (hnow : 0 ≤ now ∧ now ≤ 1048576) (A O : List Int) (L' : List Wt) (hA : againE R (dueE L now) = A) (hO : overE R (dueE L now) = O) (hL' : L.filterMap (dueW B M R now) = L') (n1 n2 : Nat) (hn1 : A.length = n1) (hn2 : O.length = n2) :
    Calls Try.prog 17 #[.pointer (some ⟨p, 0, none⟩), .int .i64 now] w fun e w' => ∃ a1 c1 a2 c2, e = .returned (.tuple #[.slice a1 n1 c1, .slice a2 n2 c2]) ∧
      Rd w' 1 (.slice a1 n1 c1) n1 (A.map (Value.int .i64)) ∧ Rd w' 1 (.slice a2 n2 c2) n2 (O.map (Value.int .i64)) ∧ T1 w0 w' p B M R L' := by
  obtain ⟨mb, h1, h2, h3⟩ := h
  refine (tdue_any w p mb B M R L h1 hL now (by omega)).mono ?_
  rintro e w' ⟨a1, c1, a2, c2, he, ho1, ho2, t, hm⟩
  subst hA hO hL' hn1 hn2
  exact ⟨a1, c1, a2, c2, he, Rd.ofOwn ho1, Rd.ofOwn ho2, T1.turn h2 h3 t (fun k hk => .inl hk) hm⟩
end
theorem one_later {B M R : Nat} {e : Wt} {now : Int} (h : now < e.due) : againE R (dueE [e] now) = [] ∧ overE R (dueE [e] now) = [] ∧ [e].filterMap (dueW B M R now) = [e] := by
  have hd : dueE [e] now = [] := by unfold dueE; rw [List.filter_cons_of_neg (by simp; omega)]; rfl
  rw [hd]
  refine ⟨rfl, rfl, ?_⟩
  rw [List.filterMap_cons_some (b := e) (by unfold dueW; rw [if_pos h])]; rfl
theorem one_again {B M R : Nat} {e : Wt} {now : Int} (h : ¬ now < e.due) (hn : e.n < R) : againE R (dueE [e] now) = [e.id] ∧ overE R (dueE [e] now) = [] ∧ [e].filterMap (dueW B M R now) = [⟨e.id, now + waitN B M (e.n + 1), e.n + 1⟩] := by
  have hd : dueE [e] now = [e] := by unfold dueE; rw [List.filter_cons_of_pos (by simp; omega)]; rfl
  rw [hd]
  refine ⟨?_, ?_, ?_⟩
  · unfold againE; rw [List.filter_cons_of_pos (by simpa using hn)]; rfl
  · unfold overE; rw [List.filter_cons_of_neg (by simpa using hn)]; rfl
  · rw [List.filterMap_cons_some (b := ⟨e.id, now + waitN B M (e.n + 1), e.n + 1⟩) (by unfold dueW; rw [if_neg h, if_pos hn])]; rfl
theorem one_over {B M R : Nat} {e : Wt} {now : Int} (h : ¬ now < e.due) (hn : ¬ e.n < R) : againE R (dueE [e] now) = [] ∧ overE R (dueE [e] now) = [e.id] ∧ [e].filterMap (dueW B M R now) = [] := by
  have hd : dueE [e] now = [e] := by unfold dueE; rw [List.filter_cons_of_pos (by simp; omega)]; rfl
  rw [hd]
  refine ⟨?_, ?_, ?_⟩
  · unfold againE; rw [List.filter_cons_of_neg (by simpa using hn)]; rfl
  · unfold overE; rw [List.filter_cons_of_pos (by simpa using hn)]; rfl
  · rw [List.filterMap_cons_none (by unfold dueW; rw [if_neg h, if_neg hn])]; rfl
theorem put_one (e x : Wt) (h : e.id = x.id) : putW [e] x = [x] := by
  unfold putW stopW
  rw [List.filter_cons_of_neg (by simp [h])]
  rfl
set_option maxHeartbeats 32000000 in
theorem tanew_all (w : World) (bs tr at_ : Int) : 
    Calls Try.prog 6 #[.int .i64 bs, .int .i64 tr, .int .i64 at_] w fun e w' => e = .returned (.bool true) ∧ Mod (fun _ => False) w w' := by
  by_cases hno : ¬ (1 ≤ bs ∧ bs ≤ 30 ∧ 1 ≤ tr ∧ tr ≤ 10 ∧ 0 ≤ at_ ∧ at_ ≤ 500)
  case pos =>
    have hend : ∀ (b1 b2 b3 b4 b5 b6 : Bool), decide (bs < 1) = b1 → decide (30 < bs) = b2 → decide (tr < 1) = b3 → decide (10 < tr) = b4 → decide (at_ < 0) = b5 → decide (500 < at_) = b6 → (b1 || b2 || b3 || b4 || b5 || b6) = true →
        Calls Try.prog 6 #[.int .i64 bs, .int .i64 tr, .int .i64 at_] w fun e w' => e = .returned (.bool true) ∧ Mod (fun _ => False) w w' := by
      intro b1 b2 b3 b4 b5 b6 h1 h2 h3 h4 h5 h6 hb
      clear hno
      cases b1
      · cases b2
        · cases b3
          · cases b4
            · cases b5
              · cases b6
                · cases hb
                · clear hb
                  go_enter Try.func6, Try.ntmps6
                  go_wp2_with fail
                  refine (awake24_any _).mono ?_
                  rintro e w9 ⟨rfl, hm9⟩
                  go_wp2_with fail
                  go_ret
                  exact ⟨rfl, hm9⟩
              · clear hb h6
                go_enter Try.func6, Try.ntmps6
                go_wp2_with fail
                refine (awake24_any _).mono ?_
                rintro e w9 ⟨rfl, hm9⟩
                go_wp2_with fail
                go_ret
                exact ⟨rfl, hm9⟩
            · clear hb h6 h5
              go_enter Try.func6, Try.ntmps6
              go_wp2_with fail
              refine (awake24_any _).mono ?_
              rintro e w9 ⟨rfl, hm9⟩
              go_wp2_with fail
              go_ret
              exact ⟨rfl, hm9⟩
          · clear hb h6 h5 h4
            go_enter Try.func6, Try.ntmps6
            go_wp2_with fail
            refine (awake24_any _).mono ?_
            rintro e w9 ⟨rfl, hm9⟩
            go_wp2_with fail
            go_ret
            exact ⟨rfl, hm9⟩
        · clear hb h6 h5 h4 h3
          go_enter Try.func6, Try.ntmps6
          go_wp2_with fail
          refine (awake24_any _).mono ?_
          rintro e w9 ⟨rfl, hm9⟩
          go_wp2_with fail
          go_ret
          exact ⟨rfl, hm9⟩
      · clear hb h6 h5 h4 h3 h2
        go_enter Try.func6, Try.ntmps6
        go_wp2_with fail
        refine (awake24_any _).mono ?_
        rintro e w9 ⟨rfl, hm9⟩
        go_wp2_with fail
        go_ret
        exact ⟨rfl, hm9⟩
    refine hend _ _ _ _ _ _ rfl rfl rfl rfl rfl rfl ?_
    simp only [Bool.or_eq_true, decide_eq_true_eq]
    omega
  case neg =>
  have hyes := Decidable.not_not.1 hno
  clear hno
  obtain ⟨B, rfl⟩ := Int.eq_ofNat_of_zero_le (show 0 ≤ bs by omega)
  obtain ⟨R, rfl⟩ := Int.eq_ofNat_of_zero_le (show 0 ≤ tr by omega)
  obtain ⟨T, rfl⟩ := Int.eq_ofNat_of_zero_le (show 0 ≤ at_ by omega)
  have hB1 : 1 ≤ B := by omega
  have hB2 : B ≤ 30 := by omega
  have hR1 : 1 ≤ R := by omega
  have hR2 : R ≤ 10 := by omega
  have hT2 : T ≤ 500 := by omega
  clear hyes
  have z0 : decide ((B : Int) < 1) = false := by simp; omega
  have z1 : decide (30 < (B : Int)) = false := by simp; omega
  have z2 : decide ((R : Int) < 1) = false := by simp; omega
  have z3 : decide (10 < (R : Int)) = false := by simp; omega
  have z4 : decide ((T : Int) < 0) = false := by simp
  have z5 : decide (500 < (T : Int)) = false := by simp; omega
  go_enter Try.func6, Try.ntmps6
  go_wp2_with fail
  refine (tmnew_any w B B R hB1 (Nat.le_refl _) (by omega) (by omega)).mono ?_
  rintro e w1 ⟨p, rfl, h1, hp, hm1⟩
  have HT1 := Lib.hid (T1.made h1 hp hm1)
  clear h1 hp hm1
  go_wp2_with fail
  refine (t1_start HT1.out (by simp) 1 0 (by decide) (by omega)).mono ?_
  rintro e w2 ⟨rfl, ht2⟩
  have HT2 : Hid (T1 w w2 p B B R [⟨1, (B : Int), 0⟩]) := Lib.hid (by simpa [putW, stopW, insW] using ht2)
  clear ht2 HT1
  go_wp2_with fail
  go_loopw [9, 10, 11] (fun nv cv iv wr => ∃ j t : Nat, j ≤ R ∧ t = j * B ∧ nv = .int .i64 (t : Int) ∧ cv = .int .i64 (j : Int) ∧ iv = .int .i64 (j : Int) ∧ T1 w wr p B B R [⟨1, ((t + B : Nat) : Int), j⟩]) (fun _ _ iv _ => R - (intOf iv).toNat)
  case atStart => exact ⟨0, 0, by omega, by simp, rfl, rfl, rfl, by simpa using HT2.out⟩
  case round =>
    obtain ⟨j, t, hj, ht, rfl, rfl, rfl, hT⟩ := hrel
    obtain ⟨wo, hwo⟩ : ∃ x : World, x = wr := ⟨_, rfl⟩
    subst hwo
    have HT3 := Lib.hid hT
    have htb : t ≤ 300 := by rw [ht]; exact Nat.le_trans (Nat.mul_le_mul (show j ≤ 10 by omega) hB2) (by omega)
    have HTJ := Lib.hid ht
    clear hT HT2 ht
    by_cases hlt : j < R
    case pos =>
      have y0 : decide ((j : Int) < (R : Int)) = true := by simp; omega
      have y1 : decide (j < R) = true := by simpa using hlt
      have h1 := one_again (B := B) (M := B) (R := R) (e := ⟨1, ((t + B : Nat) : Int), j⟩) (now := ((t : Int) + (B : Int))) (by simp) hlt
      have h2 := one_later (B := B) (M := B) (R := R) (e := ⟨1, ((t + B : Nat) : Int) + (B : Int), j + 1⟩) (now := ((t : Int) + (B : Int))) (by simp; omega)
      rw [waitN_same] at h1
      have HA1 := Lib.hid h1
      have HA2 := Lib.hid h2
      clear h1 h2
      go_wp2_with fail
      refine (t1_due HT3.out (by simp) ((t : Int) + (B : Int)) (by omega) _ _ [⟨1, ((t + B : Nat) : Int) + (B : Int), j + 1⟩] HA1.out.1 HA1.out.2.1 (by rw [HA1.out.2.2]; simp) 1 0 rfl rfl).mono ?_
      rintro e w4 ⟨x1, d1, x2, d2, rfl, _, _, ht4⟩
      have HT4 := Lib.hid ht4
      clear ht4 HT3
      go_wp2_with fail
      refine (t1_due HT4.out (by simp) ((t : Int) + (B : Int)) (by omega) _ _ _ HA2.out.1 HA2.out.2.1 HA2.out.2.2 0 0 rfl rfl).mono ?_
      rintro e w5 ⟨x3, d3, x4, d4, rfl, _, _, ht5⟩
      have HT5 := Lib.hid ht5
      clear ht5 HT4
      go_wp2_with fail
      go_roundw
      case rel => exact ⟨j + 1, t + B, hlt, by rw [HTJ.out, Nat.add_mul, Nat.one_mul], by go_num, by go_num, by go_num, by have h := HT5.out; simpa [Int.add_assoc] using h⟩
      case measure => simp [intOf]; omega
    case neg =>
      obtain rfl : j = R := by omega
      have y0 : decide ((j : Int) < (j : Int)) = false := by simp
      have y1 : decide (j < j) = false := by simp
      clear hlt
      have HPUT : Hid (putW [⟨1, ((t + B : Nat) : Int), j⟩] ⟨1, ((t : Int) + (T : Int)) + (B : Int), 0⟩ = [⟨1, ((t : Int) + (T : Int)) + (B : Int), 0⟩]) := Lib.hid (put_one _ _ rfl)
      go_wp2_with fail
      refine (t1_start HT3.out (by simp) 1 ((t : Int) + (T : Int)) (by decide) (by omega)).mono ?_
      rintro e w4 ⟨rfl, ht4⟩
      rw [HPUT.out] at ht4
      have HT4 := Lib.hid ht4
      clear ht4 HT3 HPUT
      go_wp2_with fail
      go_loopw [16] (fun iv wr => ∃ k u : Nat, k ≤ j ∧ u = B * (k + 1) ∧ iv = .int .i64 (k : Int) ∧ T1 w wr p B B j [⟨1, ((t + T + u : Nat) : Int), k⟩]) (fun iv _ => j - (intOf iv).toNat)
      case atStart => exact ⟨0, B, by omega, by simp, rfl, by have h := HT4.out; simpa using h⟩
      case round =>
        obtain ⟨k, u, hk, hu, rfl, hT⟩ := hrel
        obtain ⟨wp, hwp⟩ : ∃ x : World, x = wr := ⟨_, rfl⟩
        subst hwp
        have HT5 := Lib.hid hT
        have hub : u ≤ 330 := by rw [hu]; exact Nat.le_trans (Nat.mul_le_mul hB2 (show k + 1 ≤ 11 by omega)) (by omega)
        have hui : (B : Int) * ((k : Int) + 1) = (u : Int) := by rw [hu]; simp
        have HU := Lib.hid hu
        clear hT HT4 hu
        by_cases hlt : k < j
        case pos =>
          have y2 : decide ((k : Int) < (j : Int)) = true := by simp; omega
          have y3 : decide (k < j) = true := by simpa using hlt
          have h1 := one_again (B := B) (M := B) (R := j) (e := ⟨1, ((t + T + u : Nat) : Int), k⟩) (now := ((t : Int) + (T : Int) + (u : Int))) (by simp) hlt
          rw [waitN_same] at h1
          have HA1 := Lib.hid h1
          clear h1
          go_wp2_with fail
          refine (t1_due HT5.out (by simp) ((t : Int) + (T : Int) + (u : Int)) (by omega) _ _ [⟨1, ((t + T + u : Nat) : Int) + (B : Int), k + 1⟩] HA1.out.1 HA1.out.2.1 (by rw [HA1.out.2.2]; simp) 1 0 rfl rfl).mono ?_
          rintro e w6 ⟨x1, d1, x2, d2, rfl, _, _, ht6⟩
          have HT6 := Lib.hid ht6
          clear ht6 HT5
          go_wp2_with fail
          go_roundw
          case rel => exact ⟨k + 1, u + B, hlt, by rw [HU.out, Nat.mul_add B (k + 1) 1, Nat.mul_one], by go_num, by have h := HT6.out; simpa [Int.add_assoc] using h⟩
          case measure => simp [intOf]; omega
        case neg =>
          obtain rfl : k = j := by omega
          have y2 : decide ((k : Int) < (k : Int)) = false := by simp
          have y3 : decide (k < k) = false := by simp
          clear hlt
          have hv : (B : Int) * ((k : Int) + 2) = ((u + B : Nat) : Int) := by rw [HU.out]; simp [Int.mul_add]; omega
          obtain ⟨v, hvv⟩ : ∃ v, u + B = v := ⟨_, rfl⟩
          rw [hvv] at hv
          have hvb : v ≤ 360 := by omega
          have h1 := one_over (B := B) (M := B) (R := k) (e := ⟨1, ((t + T + u : Nat) : Int), k⟩) (now := ((t : Int) + (T : Int) + (u : Int))) (by simp) (Nat.lt_irrefl _)
          have HA1 := Lib.hid h1
          clear h1 hvv
          go_wp2_with fail
          refine (t1_due HT5.out (by simp) ((t : Int) + (T : Int) + (u : Int)) (by omega) _ _ _ HA1.out.1 HA1.out.2.1 HA1.out.2.2 0 1 rfl rfl).mono ?_
          rintro e w6 ⟨x1, d1, x2, d2, rfl, _, _, ht6⟩
          have HT6 := Lib.hid ht6
          clear ht6 HT5
          go_wp2_with fail
          refine (t1_due HT6.out (by simp) ((t : Int) + (T : Int) + (v : Int)) (by omega) [] [] [] rfl rfl rfl 0 0 rfl rfl).mono ?_
          rintro e w7 ⟨x3, d3, x4, d4, rfl, _, _, ht7⟩
          have HT7 := Lib.hid ht7
          clear ht7 HT6
          go_wp2_with fail
          refine (t1_len HT7.out).mono ?_
          rintro e w' ⟨rfl, rfl⟩
          go_wp2_with fail
          refine (awake24_any _).mono ?_
          rintro e w9 ⟨rfl, hm9⟩
          go_wp2_with fail
          go_ret
          exact ⟨rfl, HT7.out.mod.of2 hm9⟩
theorem tanew_law (w : World) (bs : Int) (_ : (Lit.int .i64 bs).wf = true) (tr : Int) (_ : (Lit.int .i64 tr).wf = true) (at_ : Int) (_ : (Lit.int .i64 at_).wf = true) :
    Calls Try.prog 6 #[.int .i64 bs, .int .i64 tr, .int .i64 at_] w fun e w' => e = .returned (.bool true) ∧ Below w.heap.size w w' :=
  (tanew_all w bs tr at_).mono fun _ _ h => ⟨h.1, h.2.below (Nat.le_refl _) (fun _ e => e.elim)⟩
end Go.Proofs.Ytncjmdpepdfjbaa
