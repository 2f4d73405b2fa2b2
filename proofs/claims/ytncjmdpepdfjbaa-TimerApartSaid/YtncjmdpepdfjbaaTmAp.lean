/- TimerApart by contract. -/
import Derived.Test.YtncjmdpepdfjbaaApP
import Derived.Lib.SlBytesConst
namespace Go.Proofs.Ytncjmdpepdfjbaa
open Go.RowKit Mile Go.Maps
set_option maxRecDepth 100000
theorem opens_pairsT : Opens Try.prog 47 (encSlice (encPair (encInt .i64) (encInt .i64))) :=
  opens_slice Try.underlying47 (by kernel_rfl) (opens_array2 Try.underlying49 (by kernel_rfl) (by kernel_rfl) (opens_int Try.underlying3)) (by decide)
def c2P (x : Int × Int) : List Value := [.int .i64 x.1, .int .i64 x.2]
theorem c2P_at : ∀ (L : List (Int × Int)) (i : Nat) (hi : i < L.length), (L.flatMap c2P)[i * 2 + 0]? = some (.int .i64 L[i].1) ∧ (L.flatMap c2P)[i * 2 + 1]? = some (.int .i64 L[i].2)
  | [], i, hi => by simp at hi
  | x :: l, 0, hi => by simp [c2P]
  | x :: l, i + 1, hi => by
    have := c2P_at l i (by simpa using hi)
    rw [List.flatMap_cons, List.getElem?_append_right (by simp [c2P]; omega), List.getElem?_append_right (by simp [c2P]; omega)]
    simp only [List.getElem_cons_succ]
    rw [show (i + 1) * 2 + 0 - (c2P x).length = i * 2 + 0 by simp [c2P]; omega, show (i + 1) * 2 + 1 - (c2P x).length = i * 2 + 1 by simp [c2P]; omega]
    exact this
theorem rd2p {w : World} {n c : Nat} {a : Option Addr} {L : List (Int × Int)} (h : Rd w 2 (.slice a n c) n (L.flatMap c2P)) (hl : L.length = n) (i : Nat) (hi : i < L.length) :
    ∃ b o, elemA a i 2 = ⟨b, o, none⟩ ∧ w.cell? ⟨b, o, none⟩ = some (.int .i64 L[i].1) ∧ w.cell? ⟨b, o + 1, none⟩ = some (.int .i64 L[i].2) := by
  obtain ⟨b, o, hp, _⟩ := h.place (j := i) (by omega)
  have hg := c2P_at L i hi
  exact ⟨b, o, hp, by have := h.elemN hp 0 hg.1; simpa using this, h.elemN hp 1 hg.2⟩
abbrev BM (w : World) (b : Nat) (f : Int → Option Int) : Prop := IMap Try.prog 3 3 w b f
theorem rd_imap {w : World} {b n : Nat} {g : Int → Option Int} {v : Value} {xs : List Value} (h : BM w b g) (hr : Rd w 1 v n xs) (hv : v.ownBlock = some b) : xs = [] := by
  cases xs with
  | nil => rfl
  | cons x t =>
    exfalso
    obtain ⟨a, c, rfl⟩ : ∃ a c, v = .slice a n c := by obtain ⟨_, a, c, rfl, _⟩ := hr; exact ⟨a, c, rfl⟩
    have hn : 0 < n := by have := hr.1; simp at this; omega
    obtain ⟨b0, o, hp, hb⟩ := hr.place (j := 0) hn
    rw [hb] at hv
    have e : b0 = b := Option.some.inj hv
    subst e
    have he := hr.elem (j := 0) (u := x) rfl
    rw [hp] at he
    obtain ⟨k, D, ⟨es, clock, hbk, _⟩, _⟩ := h
    simp [World.cell?, hbk] at he
/-- The timer and the map of starts at a world w, made since w0. -/
def ASt (w0 w : World) (p mb R : Nat) (L : List Wt) (f : Int → Option Int) : Prop :=
  ∃ tb, TM w p tb 3 9 R L ∧ BM w mb f ∧ ¬ tmF p tb mb ∧ (∀ k, tmF p tb k → w0.heap.size ≤ k) ∧ w0.heap.size ≤ mb ∧ Mod (fun _ => False) w0 w
section
variable {w0 w : World} {p mb R : Nat} {L : List Wt} {f : Int → Option Int}
theorem ASt.mod (h : ASt w0 w p mb R L f) : Mod (fun _ => False) w0 w := by obtain ⟨_, _, _, _, _, _, h⟩ := h; exact h
theorem ASt.map (h : ASt w0 w p mb R L f) : BM w mb f := by obtain ⟨_, _, h, _⟩ := h; exact h
theorem ASt.keep {w' : World} (h : ASt w0 w p mb R L f) (hm : Mod (fun _ => False) w w') : ASt w0 w' p mb R L f := by
  obtain ⟨tb, h1, h2, h3, h4, h5, h6⟩ := h
  exact ⟨tb, h1.keep hm (fun _ _ e => e), h2.keep hm (fun e => e), h3, h4, h5, h6.of2 hm⟩
theorem ASt.turn {w' : World} {tb tb' : Option Nat} {L' : List Wt} (h2 : BM w mb f) (h3 : ¬ tmF p tb mb) (h4 : ∀ k, tmF p tb k → w0.heap.size ≤ k) (h5 : w0.heap.size ≤ mb) (h6 : Mod (fun _ => False) w0 w) (t : TM w' p tb' 3 9 R L') (hmb : ∀ k, tb' = some k → tb = some k ∨ w.heap.size ≤ k) (hm : Mod (tmF p tb) w w') : ASt w0 w' p mb R L' f := by
  have hlt := h2.lt
  have hs := h6.size
  refine ⟨tb', t, h2.keep hm h3, fun e => ?_, fun k hk => ?_, h5, h6.old hm (fun k hk => h4 k hk)⟩
  · rcases e with e | e
    · exact h3 (.inl e)
    · rcases hmb _ e with x | x
      · exact h3 (.inr x)
      · omega
  · rcases hk with e | e
    · exact h4 k (.inl e)
    · rcases hmb k e with x | x
      · exact h4 k (.inr x)
      · omega
theorem ASt.wrote {w' : World} {f' : Int → Option Int} (h : ASt w0 w p mb R L f) (h2 : BM w' mb f') (hm : Mod (fun i => i = mb) w w') : ASt w0 w' p mb R L f' := by
  obtain ⟨tb, h1, _, h3, h4, h5, h6⟩ := h
  exact ⟨tb, h1.keep hm (fun k hk e => h3 (by rw [← e]; exact hk)), h2, h3, h4, h5, h6.old hm (fun k hk => by rw [hk]; exact h5)⟩
theorem ast_start (h : ASt w0 w p mb R L f) (hL : L.length ≤ 1000000) (id now : Int) (hid : (Lit.int .i64 id).wf = true) (hnow : 0 ≤ now ∧ now ≤ 1048576) :
    Calls Try.prog 13 #[.pointer (some ⟨p, 0, none⟩), .int .i64 id, .int .i64 now] w fun e w' => e = .returned (.tuple #[]) ∧ ASt w0 w' p mb R (putW L ⟨id, now + 3, 0⟩) f := by
  obtain ⟨tb, h1, h2, h3, h4, h5, h6⟩ := h
  refine (tstart_any w p tb 3 9 R L h1 (by omega) id now hid (by omega)).mono ?_
  rintro e w' ⟨he, tb', t, hmb, _, hm⟩
  exact ⟨he, ASt.turn h2 h3 h4 h5 h6 t hmb hm⟩
theorem ast_stop (h : ASt w0 w p mb R L f) (x : Int) (hx : (Lit.int .i64 x).wf = true) :
    Calls Try.prog 15 #[.pointer (some ⟨p, 0, none⟩), .slice (some ⟨w.heap.size, 0, none⟩) 1 1] (w.alloc (.cells #[.int .i64 x] 3)) fun e w' => e = .returned (.tuple #[]) ∧ ASt w0 w' p mb R (stopW L x) f := by
  have ha : Mod (fun _ => False) w (w.alloc (.cells #[.int .i64 x] 3)) := Mod.alloc _ _ _
  obtain ⟨tb, h1, h2, h3, h4, h5, h6⟩ := h
  refine (tstop_any _ p tb 3 9 R L (h1.keep ha (fun _ _ e => e)) _ 1 1 [x] rfl (Rd.lit 3 [.int .i64 x] (0, 0) w.heap.size 1 rfl rfl (by decide)) (by omega) (fun k hk e => by
    have h7 := h1.lt k (.inr e)
    have h8 : w.heap.size = k := by simpa [Value.ownBlock] using hk
    omega) (fun z hz => by simp at hz; rw [hz]; exact hx)).mono ?_
  rintro e w' ⟨he, t, hm⟩
  exact ⟨he, ASt.turn h2 h3 h4 h5 h6 t (fun k hk => .inl hk) (ha.trans hm (fun _ _ e => e.elim) (fun _ _ e => .inr e))⟩
theorem ast_due (h : ASt w0 w p mb R L f) (hL : L.length ≤ 1000000) (now : Int) (hnow : 0 ≤ now ∧ now ≤ 1048576) :
    Calls Try.prog 17 #[.pointer (some ⟨p, 0, none⟩), .int .i64 now] w fun e w' => ∃ a1 n1 c1 a2 n2 c2, e = .returned (.tuple #[.slice a1 n1 c1, .slice a2 n2 c2]) ∧ (againE R (dueE L now)).length = n1 ∧ (overE R (dueE L now)).length = n2 ∧
      Rd w' 1 (.slice a1 n1 c1) n1 ((againE R (dueE L now)).map (Value.int .i64)) ∧ Rd w' 1 (.slice a2 n2 c2) n2 ((overE R (dueE L now)).map (Value.int .i64)) ∧ ASt w0 w' p mb R (L.filterMap (dueW 3 9 R now)) f := by
  obtain ⟨tb, h1, h2, h3, h4, h5, h6⟩ := h
  refine (tdue_any w p tb 3 9 R L h1 hL now (by omega)).mono ?_
  rintro e w' ⟨a1, c1, a2, c2, he, ho1, ho2, t, hm⟩
  exact ⟨a1, _, c1, a2, _, c2, he, rfl, rfl, Rd.ofOwn ho1, Rd.ofOwn ho2, ASt.turn h2 h3 h4 h5 h6 t (fun k hk => .inl hk) hm⟩
theorem ast_wait (h : ASt w0 w p mb R L f) (k : Nat) (hk : k ≤ 100) : Calls Try.prog 10 #[.pointer (some ⟨p, 0, none⟩), .int .i64 (k : Int)] w fun e w' => e = .returned (.int .i64 (waitN 3 9 k : Int)) ∧ w = w' := by
  obtain ⟨tb, h1, _⟩ := h
  have := twait_any w p tb 3 9 R L h1 (k : Int) ((i64_wf _).2 (by omega))
  rwa [Int.toNat_natCast] at this
theorem ast_len (h : ASt w0 w p mb R L f) : Calls Try.prog 20 #[.pointer (some ⟨p, 0, none⟩)] w fun e w' => e = .returned (.int .i64 (L.length : Int)) ∧ w = w' := by
  obtain ⟨tb, h1, _⟩ := h
  exact tlen_any w p tb 3 9 R L h1
theorem Ap.zero3 (w : World) : (zeroValue 3).run Try.prog w = .ok (.int .i64 0) w := by kernel_rfl
theorem ast_look (h : ASt w0 w p mb R L f) (k : Int) (hk : (Lit.int .i64 k).wf = true) : (Instr.lookup 48 (.map (some mb)) (.int .i64 k) true).run Try.prog w = .ok (.tuple #[.int .i64 ((f k).getD 0), .bool (f k).isSome]) w :=
  IMap.look h.map Try.underlying48 Try.underlying3 Try.underlying3 (Ap.zero3 w) k hk
theorem ast_store (h : ASt w0 w p mb R L f) (ks : List Int) (hks : ∀ k, f k ≠ none → k ∈ ks) (hl : ks.length ≤ 1000) (k c : Int) (hk : (Lit.int .i64 k).wf = true) (hc : (Lit.int .i64 c).wf = true) :
    ∃ w', (Instr.mapUpdate 48 (.map (some mb)) (.int .i64 k) (.int .i64 c)).run Try.prog w = .ok () w' ∧ ASt w0 w' p mb R L (fun j => if j = k then some c else f j) := by
  obtain ⟨w', hr, hb, hm⟩ := IMap.store h.map Try.underlying48 Try.underlying3 Try.underlying3 ks hks (by unfold maxLen; omega) k c hk hc
  exact ⟨w', hr, h.wrote hb hm⟩
theorem ast_drop (h : ASt w0 w p mb R L f) (k : Int) (hk : (Lit.int .i64 k).wf = true) :
    ∃ w', (∀ ty, (Builtin.delete_ #[48, 3] ty #[.map (some mb), .int .i64 k]).run Try.prog w = .ok (.tuple #[]) w') ∧ ASt w0 w' p mb R L (fun j => if j = k then none else f j) ∧ Mod (fun i => i = mb) w w' := by
  obtain ⟨w', hr, hb, hm⟩ := IMap.drop h.map Try.underlying48 Try.underlying3 k hk 0
  exact ⟨w', fun ty => hr, h.wrote hb hm, hm⟩
end
def mixG (R now : Nat) (g : GSt) (i : Nat) : GSt := fun id => if id < i then stepG 3 9 R now g id else g id
theorem mix_same {R now : Nat} {g : GSt} {i : Nat} (h : (stepG 3 9 R now g i).map (fun sk => (sk.1 : Int)) = (g i).map (fun sk => (sk.1 : Int))) : mapG (mixG R now g i) 6 = mapG (mixG R now g (i + 1)) 6 := by
  refine mapG_same fun id _ => ?_
  unfold mixG
  by_cases e : id < i
  · rw [if_pos e, if_pos (by omega)]
  · by_cases e2 : id = i
    · subst e2; rw [if_neg e, if_pos (by omega), h]
    · rw [if_neg e, if_neg (by omega)]
theorem mix_drop {R now : Nat} {g : GSt} {i : Nat} (h : stepG 3 9 R now g i = none) : (fun j : Int => if j = (i : Int) then none else mapG (mixG R now g i) 6 j) = mapG (mixG R now g (i + 1)) 6 := by
  rw [mapG_drop]
  refine mapG_same fun id _ => ?_
  unfold updG mixG
  by_cases e2 : id = i
  · subst e2; rw [if_pos rfl, if_pos (by omega), h]
  · rw [if_neg e2]
    by_cases e : id < i
    · rw [if_pos e, if_pos (by omega)]
    · rw [if_neg e, if_neg (by omega)]
theorem mix_start (R now : Nat) (g : GSt) : mixG R now g 0 = g := by funext id; unfold mixG; rw [if_neg (by omega)]
theorem mix_end (R now : Nat) (g : GSt) : mapG (mixG R now g 6) 6 = mapG (stepG 3 9 R now g) 6 := mapG_same fun id h => by unfold mixG; rw [if_pos h]
theorem lst_len (g : GSt) : (lstG 3 9 g 6).length ≤ 6 := by
  unfold lstG
  have := List.length_filterMap_le (oneG 3 9 g) (List.range 6)
  simpa using this
theorem mapG_ks (g : GSt) : ∀ k, mapG g 6 k ≠ none → k ∈ (lstG 3 9 g 6).map (·.id) := fun k h => (mapG_keys 3 9 g 6 k).1 h

set_option maxHeartbeats 64000000 in
theorem tapart_all (w : World) (a0 : Option Addr) (m c0 : Nat) (l : List (Int × Int)) (hm : l.length = m) (hr : Rd w 2 (.slice a0 m c0) m (l.flatMap c2P)) (a1 : Option Addr) (m1 c1 : Nat) (l1 : List Int) (hm1 : l1.length = m1) (hr1 : Rd w 1 (.slice a1 m1 c1) m1 (l1.map (Value.int .i64))) (tr : Int) :
    Calls Try.prog 5 #[.slice a0 m c0, .slice a1 m1 c1, .int .i64 tr] w fun e w' => e = .returned (.bool true) ∧ Mod (fun _ => False) w w' := by
  obtain ⟨iI, hiI, hzI, hsI, hbI⟩ := info_parts Tm.info3
  have hinfo : (Try.prog.info? 49).map (fun i => (i.zero, i.size, i.bytes)) = some (some (.agg #[.int .i64 0, .int .i64 0]), 2, 16) := by kernel_rfl
  obtain ⟨iP, hiP, hzP, hsP, hbP⟩ := info_parts hinfo
  clear hinfo
  have HRD := Lib.hid hr
  have HRS := Lib.hid hr1
  have HLN := Lib.hid hm
  have HLS := Lib.hid hm1
  clear hr hr1 hm hm1
  by_cases hg0 : 8 < m
  case pos =>
    have y0 : decide (8 < (m : Int)) = true := by simp; omega
    have y0b : decide (8 < m) = true := by simpa using hg0
    go_enter Try.func5, Try.ntmps5
    go_wp2_with fail
    refine (awake24_any _).mono ?_
    rintro e w9 ⟨rfl, hm9⟩
    go_wp2_with fail
    go_ret
    exact ⟨rfl, hm9⟩
  case neg =>
  have y0 : decide (8 < (m : Int)) = false := by simp; omega
  have y0b : decide (8 < m) = false := by simp; omega
  by_cases hg1 : 8 < m1
  case pos =>
    have y1 : decide (8 < (m1 : Int)) = true := by simp; omega
    have y1b : decide (8 < m1) = true := by simpa using hg1
    go_enter Try.func5, Try.ntmps5
    go_wp2_with fail
    refine (awake24_any _).mono ?_
    rintro e w9 ⟨rfl, hm9⟩
    go_wp2_with fail
    go_ret
    exact ⟨rfl, hm9⟩
  case neg =>
  have y1 : decide (8 < (m1 : Int)) = false := by simp; omega
  have y1b : decide (8 < m1) = false := by simp; omega
  by_cases hg2 : tr < 0
  case pos =>
    have y2 : decide (tr < 0) = true := by simpa using hg2
    go_enter Try.func5, Try.ntmps5
    go_wp2_with fail
    refine (awake24_any _).mono ?_
    rintro e w9 ⟨rfl, hm9⟩
    go_wp2_with fail
    go_ret
    exact ⟨rfl, hm9⟩
  case neg =>
  have y2 : decide (tr < 0) = false := by simpa using hg2
  by_cases hg3 : 5 < tr
  case pos =>
    have y3 : decide (5 < tr) = true := by simpa using hg3
    go_enter Try.func5, Try.ntmps5
    go_wp2_with fail
    refine (awake24_any _).mono ?_
    rintro e w9 ⟨rfl, hm9⟩
    go_wp2_with fail
    go_ret
    exact ⟨rfl, hm9⟩
  case neg =>
  have y3 : decide (5 < tr) = false := by simpa using hg3
  obtain ⟨R, rfl⟩ := Int.eq_ofNat_of_zero_le (show 0 ≤ tr by omega)
  have hR5 : R ≤ 5 := by omega
  have hm8 : m ≤ 8 := by omega
  have hm18 : m1 ≤ 8 := by omega
  clear hg0 hg1 hg2 hg3
  have hmm := @run_makeMap Try.prog
  go_enter Try.func5, Try.ntmps5
  go_wp2_with fail
  have hnew : Calls Try.prog 8 #[.int .i64 3, .int .i64 9, .int .i64 (R : Int)] w _ := tmnew_any w 3 9 R (by omega) (by omega) (by omega) (by omega)
  refine hnew.mono ?_
  clear hnew
  rintro e w1 ⟨p, rfl, h1, hp, hm1⟩
  have hplt := h1.blk.lt
  have HA0 : Hid (ASt w (w1.alloc (.map #[] 0)) p w1.heap.size R (lstG 3 9 (fun _ => none) 6) (mapG (fun _ => none) 6)) := Lib.hid ⟨none, h1.keep (Mod.alloc (fun _ => False) w1 _) (fun _ _ e => e), by have h := IMap.made (P := Try.prog) (K := 3) (E := 3) w1; have hf : (fun _ : Int => (none : Option Int)) = mapG (fun _ => none) 6 := (by funext x; unfold mapG; split <;> rfl); rw [hf] at h; exact h, fun x => x.elim (fun y => by omega) (fun y => by cases y), fun k hk => hk.elim (fun y => by rw [y]; exact hp) (fun y => by cases y), hm1.size, hm1.thenAlloc _⟩
  clear h1 hp hm1 hplt
  go_wp2_with fail
  obtain ⟨mb, hmb⟩ : ∃ x, w1.heap.size = x := ⟨_, rfl⟩
  obtain ⟨w2, hw2⟩ : ∃ x, w1.alloc (.map #[] 0) = x := ⟨_, rfl⟩
  rw [hmb, hw2] at HA0
  (try rw [hw2])
  (try rw [hmb])
  clear hmb hw2 hmm
  go_loopw [10] (fun tv wr => ∃ (t : Nat) (g : GSt), t ≤ 120 ∧ tv = .int .i64 (t : Int) ∧ OkG 3 9 R t g ∧ ASt w wr p mb R (lstG 3 9 g 6) (mapG g 6)) (fun tv _ => 120 - (intOf tv).toNat)
  case atStart => exact ⟨0, _, by omega, rfl, fun id s k h => (by cases h), HA0.out⟩
  case round =>
    obtain ⟨t, g, ht, rfl, hok, hast⟩ := hrel
    obtain ⟨wo, hwo⟩ : ∃ x : World, x = wr := ⟨_, rfl⟩
    subst hwo
    have HOK := Lib.hid hok
    have HA := Lib.hid hast
    clear hok hast HA0
    by_cases hlt : t < 120
    case neg =>
      have x0 : decide ((t : Int) < 120) = false := by simp; omega
      have x0b : decide (t < 120) = false := by simpa using hlt
      go_wp2_with fail
      refine (awake24_any _).mono ?_
      rintro e w9 ⟨rfl, hm9⟩
      go_wp2_with fail
      go_ret
      exact ⟨rfl, HA.out.mod.of2 hm9⟩
    case pos =>
    have x0 : decide ((t : Int) < 120) = true := by simp; omega
    have x0b : decide (t < 120) = true := by simpa using hlt
    go_wp2_with fail
    go_loopw [11] (fun iv wr => ∃ (i : Nat) (g : GSt), i ≤ m ∧ iv = .int .i64 (i : Int) ∧ OkG 3 9 R t g ∧ ASt w wr p mb R (lstG 3 9 g 6) (mapG g 6)) (fun iv _ => m - (intOf iv).toNat)
    case atStart => exact ⟨0, g, by omega, rfl, HOK.out, HA.out⟩
    case round =>
      clear HOK HA
      obtain ⟨i, g, hi, rfl, hok, hast⟩ := hrel
      obtain ⟨wp, hwp⟩ : ∃ x : World, x = wr := ⟨_, rfl⟩
      subst hwp
      have HOK := Lib.hid hok
      have HA := Lib.hid hast
      clear hok hast
      by_cases hlti : i < m
      case pos =>
        have v0 : decide ((i : Int) < (m : Int)) = true := by simp; omega
        have v0b : decide (i < m) = true := by simpa using hlti
        have hil : i < l.length := by rw [HLN.out]; exact hlti
        obtain ⟨eb, eo, hpl, hz1, hz2⟩ := rd2p (HRD.out.keep HA.out.mod (fun _ _ e => e)) HLN.out i hil
        have hix := fun wx => run_indexS (P := Try.prog) wx 47 49 iP 2 Try.underlying47 hiP hsP a0 m c0 i hlti (HRD.out.some_ (by omega))
        rw [hpl] at hix
        have hall : ∀ W, Mod (fun _ => False) w W → W.cell? ⟨eb, eo, none⟩ = some (.int .i64 l[i].1) ∧ W.cell? ⟨eb, eo + 1, none⟩ = some (.int .i64 l[i].2) := fun W hm => by
          have hr := HRD.out.keep hm (fun _ _ e => e)
          have hg := c2P_at l i hil
          exact ⟨by have h := hr.elemN hpl 0 hg.1; simpa using h, hr.elemN hpl 1 hg.2⟩
        obtain ⟨va, hva⟩ : ∃ x, l[i].1 = x := ⟨_, rfl⟩
        obtain ⟨vb, hvb⟩ : ∃ x, l[i].2 = x := ⟨_, rfl⟩
        rw [hva, hvb] at hall
        have HALL := Lib.hid hall
        clear hall hz1 hz2 hpl hva hvb
        have e0 := (HALL.out _ HA.out.mod).1
        have e1 := (HALL.out _ HA.out.mod).2
        go_wp2_with fail
        refine (round_any vb 30 _ (by omega) (by omega)).mono ?_
        rintro e w' ⟨rfl, rfl⟩
        obtain ⟨rb, hrb⟩ : ∃ x, vb % 30 = x := ⟨_, rfl⟩
        rw [hrb]
        clear hrb
        by_cases hrt : rb = (t : Int)
        case neg =>
          have u0 : (rb == (t : Int)) = false := by simpa using hrt
          go_wp2_with fail
          go_roundw
          case rel => exact ⟨i + 1, g, hlti, by go_num, HOK.out, HA.out⟩
          case measure => simp [intOf]; omega
        case pos =>
          subst hrt
          have u0 : ((t : Int) == (t : Int)) = true := by simp
          have u0b : (t == t) = true := by simp
          have hn0 := Int.emod_nonneg va (b := 6) (by omega)
          have hn1 := Int.emod_lt_of_pos va (b := 6) (by omega)
          obtain ⟨id, hid⟩ := Int.eq_ofNat_of_zero_le hn0
          rw [hid] at hn1
          have hid6 : id < 6 := by omega
          have HID := Lib.hid hid
          clear hn0 hn1 hid
          go_wp2_with fail
          refine (round_any va 6 _ (by omega) (by omega)).mono ?_
          rintro e w' ⟨rfl, rfl⟩
          rw [HID.out]
          go_wp2_with fail
          refine (ast_start HA.out (by have := lst_len g; omega) (id : Int) (t : Int) ((i64_wf _).2 (by omega)) (by omega)).mono ?_
          rintro e w3 ⟨rfl, ha3⟩
          have hcast : (t : Int) + 3 = ((DW 3 9 t 0 : Nat) : Int) := by unfold DW; rw [waitN_zero (by omega)]; omega
          rw [hcast, lstG_put 3 9 g hid6 t 0] at ha3
          have HA3 := Lib.hid ha3
          clear ha3 hcast e0 e1
          have e0 := (HALL.out _ HA3.out.mod).1
          go_wp2_with fail
          refine (round_any va 6 _ (by omega) (by omega)).mono ?_
          rintro e w' ⟨rfl, rfl⟩
          rw [HID.out]
          obtain ⟨w4, hst, ha4⟩ := ast_store HA3.out _ (mapG_ks g) (by rw [List.length_map]; have := lst_len g; omega) (id : Int) (t : Int) ((i64_wf _).2 (by omega)) ((i64_wf _).2 (by omega))
          rw [mapG_put g hid6 t 0] at ha4
          have HA4 := Lib.hid ha4
          clear ha4
          go_wp2_with fail
          go_roundw
          case rel => exact ⟨i + 1, _, hlti, by go_num, (HOK.out.upd (by omega) id).1, HA4.out⟩
          case measure => simp [intOf]; omega
      case neg =>
      have v0 : decide ((i : Int) < (m : Int)) = false := by simp; omega
      have v0b : decide (i < m) = false := by simpa using hlti
      clear hlti
      go_wp2_with fail
      go_loopw [12] (fun iv wr => ∃ (i : Nat) (g : GSt), i ≤ m1 ∧ iv = .int .i64 (i : Int) ∧ OkG 3 9 R t g ∧ ASt w wr p mb R (lstG 3 9 g 6) (mapG g 6)) (fun iv _ => m1 - (intOf iv).toNat)
      case atStart => exact ⟨0, g, by omega, rfl, HOK.out, HA.out⟩
      case round =>
        clear HOK HA v0 v0b
        obtain ⟨j, g, hj, rfl, hok, hast⟩ := hrel
        obtain ⟨wq, hwq⟩ : ∃ x : World, x = wr := ⟨_, rfl⟩
        subst hwq
        have HOK := Lib.hid hok
        have HA := Lib.hid hast
        clear hok hast
        by_cases hlti : j < m1
        case pos =>
          have v0 : decide ((j : Int) < (m1 : Int)) = true := by simp; omega
          have v0b : decide (j < m1) = true := by simpa using hlti
          have hjl : j < l1.length := by rw [HLS.out]; exact hlti
          have hrs := HRS.out.keep HA.out.mod (fun _ _ e => e)
          obtain ⟨eb, eo, hpl, e0⟩ := rd1 hrs j hjl
          have hix := fun wx => run_indexS (P := Try.prog) wx 23 3 iI 1 Try.underlying23 hiI hsI a1 m1 c1 j hlti (hrs.some_ (by omega))
          rw [hpl] at hix
          obtain ⟨va, hva⟩ : ∃ x, l1[j] = x := ⟨_, rfl⟩
          rw [hva] at e0
          clear hva hpl hrs
          go_wp2_with fail
          refine (round_any va 60 _ (by omega) (by omega)).mono ?_
          rintro e w' ⟨rfl, rfl⟩
          obtain ⟨rb, hrb⟩ : ∃ x, va % 60 = x := ⟨_, rfl⟩
          rw [hrb]
          clear hrb
          by_cases hrt : rb = (t : Int)
          case neg =>
            have u0 : (rb == (t : Int)) = false := by simpa using hrt
            go_wp2_with fail
            go_roundw
            case rel => exact ⟨j + 1, g, hlti, by go_num, HOK.out, HA.out⟩
            case measure => simp [intOf]; omega
          case pos =>
            subst hrt
            have u0 : ((t : Int) == (t : Int)) = true := by simp
            have u0b : (t == t) = true := by simp
            obtain ⟨id, hid⟩ : ∃ x, t % 6 = x := ⟨_, rfl⟩
            have hid6 : id < 6 := by omega
            have hrem : (t : Int).tmod 6 = (id : Int) := by rw [← hid]; rfl
            have HID := Lib.hid hid
            clear hid
            go_wp2_with fail
            refine (ast_stop HA.out (id : Int) ((i64_wf _).2 (by omega))).mono ?_
            rintro e w3 ⟨rfl, ha3⟩
            rw [lstG_stop] at ha3
            have HA3 := Lib.hid ha3
            clear ha3
            obtain ⟨w4, hst, ha4, _⟩ := ast_drop HA3.out (id : Int) ((i64_wf _).2 (by omega))
            rw [mapG_drop] at ha4
            have HA4 := Lib.hid ha4
            clear ha4 e0
            go_wp2_with fail
            go_roundw
            case rel => exact ⟨j + 1, _, hlti, by go_num, (HOK.out.upd (by omega) id).2, HA4.out⟩
            case measure => simp [intOf]; omega
        case neg =>
        have v0 : decide ((j : Int) < (m1 : Int)) = false := by simp; omega
        have v0b : decide (j < m1) = false := by simpa using hlti
        clear hlti
        go_wp2_with fail
        refine (ast_due HA.out (by have := lst_len g; omega) (t : Int) (by omega)).mono ?_
        rintro e w5 ⟨x1, n1, d1, x2, n2, d2, rfl, hl1, hl2, hr1, hr2, ha5⟩
        rw [lstG_again] at hl1 hr1
        rw [lstG_over] at hl2 hr2
        rw [lstG_due HOK.out 6] at ha5
        have hAl : ((List.range 6).filterMap (agF 3 9 R t g)).length ≤ 6 := by have := List.length_filterMap_le (agF 3 9 R t g) (List.range 6); simpa using this
        have hOl : ((List.range 6).filterMap (ovF 3 9 R t g)).length ≤ 6 := by have := List.length_filterMap_le (ovF 3 9 R t g) (List.range 6); simpa using this
        have hn16 : n1 ≤ 6 := by omega
        have hn26 : n2 ≤ 6 := by omega
        have HL1 := Lib.hid hl1
        have HL2 := Lib.hid hl2
        have HR1 := Lib.hid hr1
        have HR2 := Lib.hid hr2
        have HA5 := Lib.hid ha5
        clear hl1 hl2 hr1 hr2 ha5 HA hAl hOl v0 v0b
        go_wp2_with fail
        go_loopw [14, 15, 16] (fun ov nv iv wr => ∃ (i na no co : Nat) (ao : Option Addr), i ≤ 6 ∧ iv = .int .i64 (i : Int) ∧ nv = .int .i64 (na : Int) ∧ na = ((List.range i).filterMap (agF 3 9 R t g)).length ∧ ov = .slice ao no co ∧ Rd wr 1 (.slice ao no co) no ((((List.range 6).filterMap (ovF 3 9 R t g)).drop ((List.range i).filterMap (ovF 3 9 R t g)).length).map (Value.int .i64)) ∧ Rd wr 1 (.slice x1 n1 d1) n1 (((List.range 6).filterMap (agF 3 9 R t g)).map (Value.int .i64)) ∧ ASt w wr p mb R (lstG 3 9 (stepG 3 9 R t g) 6) (mapG (mixG R t g i) 6)) (fun _ _ iv _ => 6 - (intOf iv).toNat)
        case atStart => exact ⟨0, 0, n2, d2, x2, by omega, rfl, rfl, rfl, rfl, by simpa using HR2.out, HR1.out, by rw [mix_start]; exact HA5.out⟩
        case round =>
          clear HR1 HR2 HA5
          obtain ⟨i, na, no, co, ao, hi, rfl, rfl, hna, rfl, hro, hra, hast⟩ := hrel
          obtain ⟨ws, hws⟩ : ∃ x : World, x = wr := ⟨_, rfl⟩
          subst hws
          have HNA := Lib.hid hna
          have HRO := Lib.hid hro
          have HRA := Lib.hid hra
          have HA := Lib.hid hast
          have hno : ((List.range 6).filterMap (ovF 3 9 R t g)).length - ((List.range i).filterMap (ovF 3 9 R t g)).length = no := by have := hro.1; simpa using this
          have HNO := Lib.hid hno
          clear hna hro hra hast hno
          by_cases hlti : i < 6
          case neg =>
            obtain rfl : i = 6 := by omega
            have hna1 : na = n1 := by have := HNA.out; have := HL1.out; omega
            have hno0 : no = 0 := by have := HNO.out; omega
            subst hna1
            subst hno0
            have hln := ast_len HA.out
            have hml : ∀ ty, (Builtin.len_ #[48] ty #[.map (some mb)]).run Try.prog ws = .ok (.int .i64 ((lstG 3 9 (stepG 3 9 R t g) 6).length : Int)) ws := fun ty => by
              have h := HA.out.map
              rw [mix_end] at h
              have h2 := IMap.len h Try.underlying48 Try.underlying3 _ (nodup_of_rise (lstG_rise 3 9 (stepG 3 9 R t g) 6).1) (mapG_keys 3 9 (stepG 3 9 R t g) 6) ty
              rwa [List.length_map] at h2
            obtain ⟨ln, hlnn⟩ : ∃ x, (lstG 3 9 (stepG 3 9 R t g) 6).length = x := ⟨_, rfl⟩
            rw [hlnn] at hln hml
            have HLEN := Lib.hid hln
            clear hln hlnn
            go_wp2_with fail
            refine HLEN.out.mono ?_
            rintro e w' ⟨rfl, rfl⟩
            go_wp2_with fail
            go_roundw
            case rel => exact ⟨t + 1, stepG 3 9 R t g, by omega, by go_num, HOK.out.step (by omega) (by omega), by have h := HA.out; rw [mix_end] at h; exact h⟩
            case measure => simp [intOf]; omega
          case pos =>
            have v0 : decide ((i : Int) < 6) = true := by simp; omega
            have v0b : decide (i < 6) = true := by simpa using hlti
            have hlook := ast_look HA.out (i : Int) ((i64_wf _).2 (by omega))
            have hfi : mapG (mixG R t g i) 6 (i : Int) = (g i).map (fun sk => (sk.1 : Int)) := by rw [mapG_at _ hlti]; unfold mixG; rw [if_neg (Nat.lt_irrefl _)]
            rw [hfi] at hlook
            have hag : (List.range (i + 1)).filterMap (agF 3 9 R t g) = (List.range i).filterMap (agF 3 9 R t g) ++ (agF 3 9 R t g i).toList := fm_succ _ i
            have hov : (List.range (i + 1)).filterMap (ovF 3 9 R t g) = (List.range i).filterMap (ovF 3 9 R t g) ++ (ovF 3 9 R t g i).toList := fm_succ _ i
            have HAG := Lib.hid hag
            have HOV := Lib.hid hov
            clear hag hov hfi
            cases hgi : g i with
            | none =>
              rw [hgi] at hlook
              simp only [Option.map_none, Option.getD_none, Option.isSome_none] at hlook
              have HG := Lib.hid hgi
              have HA1 : Hid (agF 3 9 R t g i = none) := Lib.hid (by unfold agF; rw [hgi])
              have HO1 : Hid (ovF 3 9 R t g i = none) := Lib.hid (by unfold ovF; rw [hgi])
              have HS1 : Hid (stepG 3 9 R t g i = none) := Lib.hid (by unfold stepG; rw [hgi])
              clear hgi
              go_wp2_with fail
              go_roundw
              case rel => exact ⟨i + 1, na, no, co, ao, hlti, by go_num, rfl, by rw [HAG.out, HA1.out]; simpa using HNA.out, rfl, by rw [HOV.out, HO1.out]; simpa using HRO.out, HRA.out, by rw [← mix_same (by rw [HS1.out, HG.out])]; exact HA.out⟩
              case measure => simp [intOf]; omega
            | some sk =>
              obtain ⟨s, k⟩ := sk
              rw [hgi] at hlook
              simp only [Option.map_some, Option.getD_some, Option.isSome_some] at hlook
              obtain ⟨hkR, hnd, hall, hsn⟩ := HOK.out i s k hgi
              have HG := Lib.hid hgi
              have HALL := Lib.hid hall
              have HA1 : Hid (agF 3 9 R t g i = if t < DW 3 9 s k then none else if k < R then some (i : Int) else none) := Lib.hid (by unfold agF; rw [hgi])
              have HO1 : Hid (ovF 3 9 R t g i = if t < DW 3 9 s k then none else if k < R then none else some (i : Int)) := Lib.hid (by unfold ovF; rw [hgi])
              have HS1 : Hid (stepG 3 9 R t g i = if t < DW 3 9 s k then some (s, k) else if k < R then some (s, k + 1) else none) := Lib.hid (by unfold stepG; rw [hgi])
              clear hgi hall
              have hw0 := ast_wait HA.out 0 (by omega)
              rw [waitN_zero (by omega)] at hw0
              have HW0 : Hid (Calls Try.prog 10 #[.pointer (some ⟨p, 0, none⟩), .int .i64 0] ws fun e w' => e = .returned (.int .i64 3) ∧ ws = w') := Lib.hid hw0
              clear hw0
              go_wp2_with fail
              refine HW0.out.mono ?_
              rintro e w' ⟨rfl, rfl⟩
              go_wp2_with fail
              go_loopw [19, 20] (fun dv kv wr => ∃ q d : Nat, q ≤ k ∧ d = DW 3 9 s q ∧ d ≤ t + 9 ∧ dv = .int .i64 (d : Int) ∧ kv = .int .i64 (q : Int) ∧ ws = wr) (fun _ kv _ => k - (intOf kv).toNat)
              case atStart => exact ⟨0, s + 3, by omega, by unfold DW; rw [waitN_zero (by omega)], by omega, by go_num, rfl, rfl⟩
              case round =>
                obtain ⟨q, d, hq, hd, hdb, rfl, rfl, rfl⟩ := hrel
                have HD := Lib.hid hd
                clear hd
                by_cases hqk : q < k
                case pos =>
                  have hdt : d < t := by rw [HD.out]; exact HALL.out q hqk
                  have u0 : decide ((d : Int) < (t : Int)) = true := by simp; omega
                  have u0b : decide (d < t) = true := by simpa using hdt
                  have u1 : decide ((q : Int) < (R : Int)) = true := by simp; omega
                  have u1b : decide (q < R) = true := by simp; omega
                  have hwq := ast_wait HA.out (q + 1) (by omega)
                  rw [show ((q + 1 : Nat) : Int) = (q : Int) + 1 by omega] at hwq
                  have hwl := waitN_le 3 9 (q + 1)
                  have hdn : DW 3 9 s (q + 1) = d + waitN 3 9 (q + 1) := by rw [HD.out]; rfl
                  obtain ⟨wt, hwt⟩ : ∃ x, waitN 3 9 (q + 1) = x := ⟨_, rfl⟩
                  rw [hwt] at hwq hwl hdn
                  have HWQ := Lib.hid hwq
                  have HDN := Lib.hid hdn
                  clear hwq hdn hwt
                  go_wp2_with fail
                  refine HWQ.out.mono ?_
                  rintro e w' ⟨rfl, rfl⟩
                  go_wp2_with fail
                  go_roundw
                  case rel => exact ⟨q + 1, d + wt, hqk, HDN.out.symm, by omega, by go_num, by go_num, trivial⟩
                  case measure => simp [intOf]; omega
                case neg =>
                  obtain rfl : q = k := by omega
                  have u0 : decide ((d : Int) < (t : Int)) = false := by have := HD.out; simp; omega
                  have u0b : decide (d < t) = false := by have := HD.out; simp; omega
                  have htd : t ≤ d := by have := HD.out; omega
                  by_cases hlate : t < d
                  case pos =>
                    have hlt2 : t < DW 3 9 s q := by rw [← HD.out]; exact hlate
                    have HA2 : Hid (agF 3 9 R t g i = none) := Lib.hid (by rw [HA1.out, if_pos hlt2])
                    have HO2 : Hid (ovF 3 9 R t g i = none) := Lib.hid (by rw [HO1.out, if_pos hlt2])
                    have HS2 : Hid (stepG 3 9 R t g i = some (s, q)) := Lib.hid (by rw [HS1.out, if_pos hlt2])
                    have u2 : ((d : Int) == (t : Int)) = false := by simp; omega
                    have u2b : (d == t) = false := by simp; omega
                    clear hlt2 hlate
                    go_wp2_with fail
                    go_roundw
                    case rel => exact ⟨i + 1, na, no, co, ao, hlti, by go_num, rfl, by rw [HAG.out, HA2.out]; simpa using HNA.out, rfl, by rw [HOV.out, HO2.out]; simpa using HRO.out, HRA.out, by rw [← mix_same (by rw [HS2.out, HG.out])]; exact HA.out⟩
                    case measure => simp [intOf]; omega
                  case neg =>
                    obtain rfl : d = t := by omega
                    have hnl : ¬ d < DW 3 9 s q := by rw [← HD.out]; omega
                    have u2 : ((d : Int) == (d : Int)) = true := by simp
                    have u2b : (d == d) = true := by simp
                    by_cases hqR : q < R
                    case pos =>
                      have u1 : decide ((q : Int) < (R : Int)) = true := by simp; omega
                      have u1b : decide (q < R) = true := by simpa using hqR
                      have u3 : ((q : Int) == (R : Int)) = false := by simp; omega
                      have u3b : (q == R) = false := by simp; omega
                      have ha2 : agF 3 9 R d g i = some (i : Int) := by rw [HA1.out, if_neg hnl, if_pos hqR]
                      have HO2 : Hid (ovF 3 9 R d g i = none) := Lib.hid (by rw [HO1.out, if_neg hnl, if_pos hqR])
                      have HS2 : Hid (stepG 3 9 R d g i = some (s, q + 1)) := Lib.hid (by rw [HS1.out, if_neg hnl, if_pos hqR])
                      have hat := fm_at (agF 3 9 R d g) ha2 6 hlti
                      rw [← HNA.out] at hat
                      have hnl1 : na < n1 := by rw [← HL1.out]; rcases Nat.lt_or_ge na ((List.range 6).filterMap (agF 3 9 R d g)).length with h | h; exact h; rw [List.getElem?_eq_none h] at hat; cases hat
                      have HA2 := Lib.hid ha2
                      obtain ⟨fb, fo, hpl, _⟩ := HRA.out.place (j := na) hnl1
                      have f0 := HRA.out.elem (j := na) (u := .int .i64 (i : Int)) (by rw [List.getElem?_map, hat]; rfl)
                      rw [hpl] at f0
                      have hix := fun wx => run_indexS (P := Try.prog) wx 23 3 iI 1 Try.underlying23 hiI hsI x1 n1 d1 na hnl1 (HRA.out.some_ (by omega))
                      rw [hpl] at hix
                      have u4 : decide ((n1 : Int) ≤ (na : Int)) = false := by simp; omega
                      have u4b : decide (n1 ≤ na) = false := by simp; omega
                      have u5 : ((i : Int) != (i : Int)) = false := by simp
                      clear ha2 hat hpl hnl
                      go_wp2_with fail
                      go_roundw
                      case rel => exact ⟨i + 1, na + 1, no, co, ao, hlti, by go_num, by go_num, by rw [HAG.out, HA2.out]; simp [HNA.out], rfl, by rw [HOV.out, HO2.out]; simpa using HRO.out, HRA.out, by rw [← mix_same (by rw [HS2.out, HG.out]; rfl)]; exact HA.out⟩
                      case measure => simp [intOf]; omega
                    case neg =>
                      obtain rfl : q = R := by omega
                      have u1 : decide ((q : Int) < (q : Int)) = false := by simp
                      have u1b : decide (q < q) = false := by simp
                      have u3 : ((q : Int) == (q : Int)) = true := by simp
                      have u3b : (q == q) = true := by simp
                      have HA2 : Hid (agF 3 9 q d g i = none) := Lib.hid (by rw [HA1.out, if_neg hnl, if_neg hqR])
                      have ho2 : ovF 3 9 q d g i = some (i : Int) := by rw [HO1.out, if_neg hnl, if_neg hqR]
                      have HS2 : Hid (stepG 3 9 q d g i = none) := Lib.hid (by rw [HS1.out, if_neg hnl, if_neg hqR])
                      have hat := fm_at (ovF 3 9 q d g) ho2 6 hlti
                      have hol : ((List.range i).filterMap (ovF 3 9 q d g)).length < ((List.range 6).filterMap (ovF 3 9 q d g)).length := by rcases Nat.lt_or_ge ((List.range i).filterMap (ovF 3 9 q d g)).length ((List.range 6).filterMap (ovF 3 9 q d g)).length with h | h; exact h; rw [List.getElem?_eq_none h] at hat; cases hat
                      have HO2 := Lib.hid ho2
                      obtain ⟨m2, rfl⟩ : ∃ m, no = m + 1 := ⟨no - 1, by have := HNO.out; omega⟩
                      obtain ⟨fb, fo, hpl, _⟩ := HRO.out.place (j := 0) (by omega)
                      have f0 := HRO.out.elem (j := 0) (u := .int .i64 (i : Int)) (by rw [List.getElem?_map, List.getElem?_drop, Nat.add_zero, hat]; rfl)
                      rw [hpl] at f0
                      have hix : ∀ wx, (Instr.indexAt 23 (.slice ao (m2 + 1) co) (.int .i64 0)).run Try.prog wx = .ok (.pointer (some ⟨fb, fo, none⟩)) wx := fun wx => by have h := run_indexS (P := Try.prog) wx 23 3 iI 1 Try.underlying23 hiI hsI ao (m2 + 1) co 0 (by omega) (HRO.out.some_ (by omega)); rw [hpl] at h; exact h
                      have hdk : ∀ wx, (Instr.slice 23 (.slice ao (m2 + 1) co) (some (.int .i64 1)) none none).run Try.prog wx = .ok (.slice (dropA ao co 1 1) m2 (co - 1)) wx := fun wx => run_dropS (P := Try.prog) wx 23 3 iI 1 Try.underlying23 hiI hsI ao (m2 + 1) co 1 (by omega)
                      have hrd2 := HRO.out.drop (n := 1) (by omega)
                      rw [← List.map_drop, List.drop_drop] at hrd2
                      replace hrd2 : Rd ws 1 (.slice (dropA ao co 1 1) m2 (co - 1)) m2 ((((List.range 6).filterMap (ovF 3 9 q d g)).drop (((List.range i).filterMap (ovF 3 9 q d g)).length + 1)).map (Value.int .i64)) := hrd2
                      obtain ⟨w6, hst, ha6, hm6⟩ := ast_drop HA.out (i : Int) ((i64_wf _).2 (by omega))
                      rw [mix_drop HS2.out] at ha6
                      have hro6 := hrd2.keepA hm6 (fun b hb e => rd_imap (b := mb) HA.out.map hrd2 (by rw [← e]; exact hb))
                      have hra6 := HRA.out.keepA hm6 (fun b hb e => rd_imap (b := mb) HA.out.map HRA.out (by rw [← e]; exact hb))
                      have HRO6 := Lib.hid hro6
                      have HRA6 := Lib.hid hra6
                      have HA6 := Lib.hid ha6
                      have u4 : (((m2 + 1 : Nat) : Int) == 0) = false := by simp; omega
                      have u4b : ((m2 : Int) + 1 == 0) = false := by simp; omega
                      have u5 : ((i : Int) != (i : Int)) = false := by simp
                      clear ho2 hat hpl hnl hol hrd2 ha6 hm6 hro6 hra6
                      go_wp2_with fail
                      go_roundw
                      case rel => exact ⟨i + 1, na, m2, co - 1, dropA ao co 1 1, hlti, by go_num, rfl, by rw [HAG.out, HA2.out]; simpa using HNA.out, rfl, by rw [HOV.out, HO2.out]; simpa using HRO6.out, HRA6.out, HA6.out⟩
                      case measure => simp [intOf]; omega
theorem tapart_law (w : World) (a0 : Option Addr) (m c0 : Nat) (l : List (Int × Int)) (ok : (encSlice (encPair (encInt .i64) (encInt .i64))).ok w (.slice a0 m c0, l)) (a1 : Option Addr) (m1 c1 : Nat) (l1 : List Int) (ok1 : (encSlice (encInt .i64)).ok w (.slice a1 m1 c1, l1)) (tr : Int) (_ : (Lit.int .i64 tr).wf = true) :
    Calls Try.prog 5 #[.slice a0 m c0, .slice a1 m1 c1, .int .i64 tr] w fun e w' => e = .returned (.bool true) ∧ Below w.heap.size w w' := by
  obtain ⟨hr, _⟩ := ok
  have hr' : Rd w 2 (.slice a0 m c0) l.length (l.flatMap c2P) := hr
  have hn := hr'.len_eq
  subst hn
  obtain ⟨hn1, hr1, _⟩ := ok_ints ok1
  exact (tapart_all w a0 _ c0 l rfl hr' a1 m1 c1 l1 hn1 hr1 tr).mono fun _ _ h => ⟨h.1, h.2.below (Nat.le_refl _) (fun _ e => e.elim)⟩

end Go.Proofs.Ytncjmdpepdfjbaa
