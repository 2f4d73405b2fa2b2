/- Law 24: the code's timer and the reference's, side by side. -/
import Derived.Test.YtncjmdpepdfjbaaAwake24
import Derived.Test.YtncjmdpepdfjbaaRTm4
import Derived.Test.YtncjmdpepdfjbaaIRowP
import Derived.Test.YtncjmdpepdfjbaaOpens
import Derived.Test.YtncjmdpepdfjbaaRound
import Derived.Deep.QuietTactic
import Derived.BigQuiet
namespace Go.Proofs.Ytncjmdpepdfjbaa
open Go.RowKit Mile Go.Maps
set_option maxRecDepth 100000
abbrev ActT := Int × Int × Int × Unit
def encActT : Enc ActT := encPair (encInt .i64) (encPair (encInt .i64) (encPair (encInt .i64) encUnit))
theorem opens_actT : Opens Try.prog 33 encActT :=
  opens_struct Try.underlying33 (by kernel_rfl) (opens_cons rfl (by kernel_rfl) (opens_int Try.underlying3) (opens_cons rfl (by kernel_rfl) (opens_int Try.underlying3)
    (opens_cons rfl (by kernel_rfl) (opens_int Try.underlying3) (opens_nil _ _))))
theorem opens_actTs : Opens Try.prog 22 (encSlice encActT) := opens_slice Try.underlying22 (by kernel_rfl) opens_actT (by decide)
def cActT (x : ActT) : List Value := [.int .i64 x.1, .int .i64 x.2.1, .int .i64 x.2.2.1]
theorem cActT_eq (x : ActT) : encActT.img x = cActT x := rfl
theorem cActT_at : ∀ (L : List ActT) (i : Nat) (hi : i < L.length), (L.flatMap cActT)[i * 3 + 0]? = some (.int .i64 L[i].1) ∧ (L.flatMap cActT)[i * 3 + 1]? = some (.int .i64 L[i].2.1) ∧ (L.flatMap cActT)[i * 3 + 2]? = some (.int .i64 L[i].2.2.1)
  | [], i, hi => by simp at hi
  | x :: l, 0, hi => by simp [cActT]
  | x :: l, i + 1, hi => by
    have := cActT_at l i (by simpa using hi)
    rw [List.flatMap_cons, List.getElem?_append_right (by simp [cActT]; omega), List.getElem?_append_right (by simp [cActT]; omega), List.getElem?_append_right (by simp [cActT]; omega)]
    simp only [List.getElem_cons_succ]
    rw [show (i + 1) * 3 + 0 - (cActT x).length = i * 3 + 0 by simp [cActT]; omega, show (i + 1) * 3 + 1 - (cActT x).length = i * 3 + 1 by simp [cActT]; omega, show (i + 1) * 3 + 2 - (cActT x).length = i * 3 + 2 by simp [cActT]; omega]
    exact this
theorem rdAct {w : World} {n c : Nat} {a : Option Addr} {L : List ActT} (h : Rd w 3 (.slice a n c) n (L.flatMap cActT)) (hl : L.length = n) (i : Nat) (hi : i < L.length) :
    ∃ b o, elemA a i 3 = ⟨b, o, none⟩ ∧ w.cell? ⟨b, o, none⟩ = some (.int .i64 L[i].1) ∧ w.cell? ⟨b, o + 1, none⟩ = some (.int .i64 L[i].2.1) ∧ w.cell? ⟨b, o + 2, none⟩ = some (.int .i64 L[i].2.2.1) := by
  obtain ⟨b, o, hp, _⟩ := h.place (j := i) (by omega)
  have hg := cActT_at L i hi
  exact ⟨b, o, hp, by have := h.elemN hp 0 hg.1; simpa using this, h.elemN hp 1 hg.2.1, h.elemN hp 2 hg.2.2⟩
abbrev GsT := List (Nat × TypeId × List Value)
/-- Both timers at a world w, made since w0: the code's stands for L1, the reference's for L2; gs: blocks apart from both. -/
def TSt (gs : GsT) (w0 w : World) (p q B M R : Nat) (L1 L2 : List Wt) : Prop :=
  ∃ mb a n c, TM w p mb B M R L1 ∧ RT w q a n c B M R L2 ∧ ¬ tmF p mb q ∧ (∀ k, (Value.slice a n c).ownBlock = some k → tmF p mb k → n = 0) ∧ (∀ k, tmF p mb k → w0.heap.size ≤ k) ∧ w0.heap.size ≤ q ∧ Mod (fun _ => False) w0 w ∧ ∀ x ∈ gs, Blk w x.1 x.2.1 x.2.2 ∧ ¬ tmF p mb x.1 ∧ x.1 ≠ q
theorem TSt.mod {gs : GsT} {w0 w : World} {p q B M R : Nat} {L1 L2 : List Wt} (h : TSt gs w0 w p q B M R L1 L2) : Mod (fun _ => False) w0 w := by
  obtain ⟨mb, a, n, c, _, _, _, _, _, _, h, _⟩ := h; exact h
theorem TSt.keep {gs : GsT} {w0 w w' : World} {p q B M R : Nat} {L1 L2 : List Wt} (h : TSt gs w0 w p q B M R L1 L2) (hm : Mod (fun _ => False) w w') : TSt gs w0 w' p q B M R L1 L2 := by
  obtain ⟨mb, a, n, c, h1, h2, h3, h4, h5, h6, h7, h9⟩ := h
  exact ⟨mb, a, n, c, h1.keep hm (fun _ _ e => e), h2.keep hm (fun e => e) (fun _ _ e => e.elim), h3, h4, h5, h6, h7.of2 hm, fun x hx => ⟨(h9 x hx).1.keep hm (fun e => e), (h9 x hx).2⟩⟩
theorem TSt.made {w0 w1 w2 : World} {p q B M R : Nat} (h1 : TM w1 p none B M R []) (hp : w0.heap.size ≤ p) (hm1 : Mod (fun _ => False) w0 w1) (h2 : RT w2 q none 0 0 B M R []) (hq : w1.heap.size ≤ q) (hm2 : Mod (fun _ => False) w1 w2) : TSt [] w0 w2 p q B M R [] [] := by
  have hlt := h1.blk.lt
  refine ⟨none, none, 0, 0, h1.keep hm2 (fun _ _ e => e), h2, fun e => ?_, fun k hk => (by cases hk), fun k hk => ?_, Nat.le_trans hm1.size hq, hm1.of2 hm2, fun x hx => (by simp at hx)⟩
  · rcases e with e | e
    · omega
    · cases e
  · rcases hk with e | e
    · omega
    · cases e
/-- A call that turns the code's timer alone. -/
theorem TSt.one {gs : GsT} {w0 w w' : World} {p q B M R : Nat} {L2 L1' : List Wt} {mb : Option Nat} {a : Option Addr} {n c : Nat} (h2 : RT w q a n c B M R L2) (h3 : ¬ tmF p mb q) (h4 : ∀ k, (Value.slice a n c).ownBlock = some k → tmF p mb k → n = 0) (h5 : ∀ k, tmF p mb k → w0.heap.size ≤ k) (h6 : w0.heap.size ≤ q) (h7 : Mod (fun _ => False) w0 w) (h9 : ∀ x ∈ gs, Blk w x.1 x.2.1 x.2.2 ∧ ¬ tmF p mb x.1 ∧ x.1 ≠ q)
    {mb' : Option Nat} (t : TM w' p mb' B M R L1') (hmb : ∀ k, mb' = some k → mb = some k ∨ w.heap.size ≤ k) (hm : Mod (tmF p mb) w w') : TSt gs w0 w' p q B M R L1' L2 := by
  have hsz := h7.size
  have hqlt := h2.blk.lt
  refine ⟨mb', a, n, c, t, h2.keep hm h3 h4, fun e => ?_, fun k hk e => ?_, fun k hk => ?_, h6, h7.old hm (fun k hk => h5 k hk), fun x hx => ⟨(h9 x hx).1.keep hm (h9 x hx).2.1, fun e => ?_, (h9 x hx).2.2⟩⟩
  · rcases e with e | e
    · exact h3 (.inl e)
    · rcases hmb q e with x | x
      · exact h3 (.inr x)
      · omega
  · rcases e with e | e
    · exact h4 k hk (.inl e)
    · rcases hmb k e with x | x
      · exact h4 k hk (.inr x)
      · have h0 := h2.rd.lt hk x
        have h8 := h2.rd.1
        rw [h0] at h8
        simp at h8
        omega
  · rcases hk with e | e
    · exact h5 k (.inl e)
    · rcases hmb k e with x | x
      · exact h5 k (.inr x)
      · omega
  · have hlt := (h9 x hx).1.lt
    rcases e with e | e
    · exact (h9 x hx).2.1 (.inl e)
    · rcases hmb _ e with y | y
      · exact (h9 x hx).2.1 (.inr y)
      · omega
/-- A call that turns the reference's timer alone. -/
theorem TSt.two {gs : GsT} {w0 w w' : World} {p q B M R : Nat} {L1 L2' : List Wt} {mb : Option Nat} (t : TM w p mb B M R L1) (h3 : ¬ tmF p mb q) (h5 : ∀ k, tmF p mb k → w0.heap.size ≤ k) (h6 : w0.heap.size ≤ q) (h7 : Mod (fun _ => False) w0 w) (h9 : ∀ x ∈ gs, Blk w x.1 x.2.1 x.2.2 ∧ ¬ tmF p mb x.1 ∧ x.1 ≠ q)
    {a : Option Addr} {n c : Nat} (h2 : RT w' q a n c B M R L2') (hlow : ∀ k, (Value.slice a n c).ownBlock = some k → w.heap.size ≤ k) (hm : Mod (fun k => k = q) w w') : TSt gs w0 w' p q B M R L1 L2' :=
  ⟨mb, a, n, c, t.keep hm (fun k hk e => h3 (by rw [← e]; exact hk)), h2, h3, fun k hk e => absurd (t.lt k e) (by have := hlow k hk; omega), h5, h6, h7.old hm (fun k hk => by rw [hk]; exact h6), fun x hx => ⟨(h9 x hx).1.keep hm (h9 x hx).2.2, (h9 x hx).2⟩⟩
section
variable {gs : GsT} {w0 w : World} {p q B M R : Nat} {L1 L2 : List Wt}
theorem tst_start1 (h : TSt gs w0 w p q B M R L1 L2) (hL : L1.length ≤ 1000000) (id now : Int) (hid : (Lit.int .i64 id).wf = true) (hnow : 0 ≤ now ∧ now < 1048576) :
    Calls Try.prog 13 #[.pointer (some ⟨p, 0, none⟩), .int .i64 id, .int .i64 now] w fun e w' => e = .returned (.tuple #[]) ∧ TSt gs w0 w' p q B M R (putW L1 ⟨id, now + (B : Int), 0⟩) L2 := by
  obtain ⟨mb, a, n, c, h1, h2, h3, h4, h5, h6, h7, h9⟩ := h
  refine (tstart_any w p mb B M R L1 h1 (by omega) id now hid (by omega)).mono ?_
  rintro e w' ⟨he, mb', t, hmb, _, hm⟩
  exact ⟨he, TSt.one h2 h3 h4 h5 h6 h7 h9 t hmb hm⟩
theorem tst_start2 (h : TSt gs w0 w p q B M R L1 L2) (hL : L2.length ≤ 1000000) (hr : RiseW L2) (id now : Int) (hnow : 0 ≤ now ∧ now < 1048576) :
    Calls Try.prog 14 #[.pointer (some ⟨q, 0, none⟩), .int .i64 id, .int .i64 now] w fun e w' => e = .returned (.tuple #[]) ∧ TSt gs w0 w' p q B M R L1 (putW L2 ⟨id, now + (B : Int), 0⟩) := by
  obtain ⟨mb, a, n, c, h1, h2, h3, h4, h5, h6, h7, h9⟩ := h
  refine (rtstart_any w q a n c B M R L2 h2 hr (by have := h2.len; omega) id now (by omega)).mono ?_
  rintro e w' ⟨he, a', n', c', t, hlow, hm⟩
  exact ⟨he, TSt.two h1 h3 h5 h6 h7 h9 t hlow hm⟩
theorem tst_stop1 (h : TSt gs w0 w p q B M R L1 L2) (x y : Int) (hx : (Lit.int .i64 x).wf = true) (hy : (Lit.int .i64 y).wf = true) :
    Calls Try.prog 15 #[.pointer (some ⟨p, 0, none⟩), .slice (some ⟨w.heap.size, 0, none⟩) 2 2] (w.alloc (.cells #[.int .i64 x, .int .i64 y] 3)) fun e w' => e = .returned (.tuple #[]) ∧ TSt gs w0 w' p q B M R (stopW (stopW L1 x) y) L2 := by
  have ha : Mod (fun _ => False) w (w.alloc (.cells #[.int .i64 x, .int .i64 y] 3)) := Mod.alloc _ _ _
  have hlt : ∀ mb, TM w p mb B M R L1 → ∀ k, (Value.slice (some ⟨w.heap.size, 0, none⟩) 2 2).ownBlock = some k → mb = some k → False := fun mb t k hk e => by
    have h1 := t.lt k (.inr e)
    have h2 : w.heap.size = k := by simpa [Value.ownBlock] using hk
    omega
  obtain ⟨mb, a, n, c, h1, h2, h3, h4, h5, h6, h7, h9⟩ := h
  refine (tstop_any _ p mb B M R L1 (h1.keep ha (fun _ _ e => e)) _ 2 2 [x, y] rfl (Rd.lit 3 [.int .i64 x, .int .i64 y] (0, 0) w.heap.size 2 rfl rfl (by decide)) (by omega) (fun k hk e => (hlt mb h1 k hk e).elim) (fun z hz => by simp at hz; exact hz.elim (fun e => by rw [e]; exact hx) (fun e => by rw [e]; exact hy))).mono ?_
  rintro e w' ⟨he, t, hm⟩
  exact ⟨he, TSt.one h2 h3 h4 h5 h6 h7 h9 t (fun k hk => .inl hk) (ha.trans hm (fun _ _ e => e.elim) (fun _ _ e => .inr e))⟩
theorem tst_stop2 (h : TSt gs w0 w p q B M R L1 L2) (hL : L2.length ≤ 1000000) (x : Int) :
    Calls Try.prog 16 #[.pointer (some ⟨q, 0, none⟩), .int .i64 x] w fun e w' => e = .returned (.tuple #[]) ∧ TSt gs w0 w' p q B M R L1 (stopW L2 x) := by
  obtain ⟨mb, a, n, c, h1, h2, h3, h4, h5, h6, h7, h9⟩ := h
  refine (rtstop_any w q a n c B M R L2 h2 (by have := h2.len; omega) x).mono ?_
  rintro e w' ⟨he, a', n', c', t, hlow, hm⟩
  exact ⟨he, TSt.two h1 h3 h5 h6 h7 h9 t hlow hm⟩
theorem tst_due1 (h : TSt gs w0 w p q B M R L1 L2) (hL : L1.length ≤ 1000000) (now : Int) (hnow : 0 ≤ now ∧ now < 1048576) :
    Calls Try.prog 17 #[.pointer (some ⟨p, 0, none⟩), .int .i64 now] w fun e w' => ∃ a1 n1 c1 a2 n2 c2, e = .returned (.tuple #[.slice a1 n1 c1, .slice a2 n2 c2]) ∧ (againE R (dueE L1 now)).length = n1 ∧ (overE R (dueE L1 now)).length = n2 ∧
      Rd w' 1 (.slice a1 n1 c1) n1 ((againE R (dueE L1 now)).map (Value.int .i64)) ∧ Rd w' 1 (.slice a2 n2 c2) n2 ((overE R (dueE L1 now)).map (Value.int .i64)) ∧ (∀ k, (Value.slice a1 n1 c1).ownBlock = some k → k ≠ q) ∧ (∀ k, (Value.slice a2 n2 c2).ownBlock = some k → k ≠ q) ∧ TSt gs w0 w' p q B M R (L1.filterMap (dueW B M R now)) L2 := by
  obtain ⟨mb, a, n, c, h1, h2, h3, h4, h5, h6, h7, h9⟩ := h
  refine (tdue_any w p mb B M R L1 h1 (by omega) now (by omega)).mono ?_
  rintro e w' ⟨a1, c1, a2, c2, he, ho1, ho2, t, hm⟩
  have hql := h2.blk.lt
  exact ⟨a1, _, c1, a2, _, c2, he, rfl, rfl, Rd.ofOwn ho1, Rd.ofOwn ho2, fun k hk => by have := (ho1.lt k hk).1; omega, fun k hk => by have := (ho2.lt k hk).1; omega, TSt.one h2 h3 h4 h5 h6 h7 h9 t (fun k hk => .inl hk) hm⟩
theorem tst_due2 (h : TSt gs w0 w p q B M R L1 L2) (hL : L2.length ≤ 1000000) (hnR : ∀ e ∈ L2, e.n ≤ R) (now : Int) (hnow : 0 ≤ now ∧ now < 1048576) :
    Calls Try.prog 18 #[.pointer (some ⟨q, 0, none⟩), .int .i64 now] w fun e w' => ∃ a1 n1 c1 a2 n2 c2, e = .returned (.tuple #[.slice a1 n1 c1, .slice a2 n2 c2]) ∧ (againE R (dueE L2 now)).length = n1 ∧ (overE R (dueE L2 now)).length = n2 ∧
      Rd w' 1 (.slice a1 n1 c1) n1 ((againE R (dueE L2 now)).map (Value.int .i64)) ∧ Rd w' 1 (.slice a2 n2 c2) n2 ((overE R (dueE L2 now)).map (Value.int .i64)) ∧ Mod (fun k => k = q) w w' ∧ TSt gs w0 w' p q B M R L1 (L2.filterMap (dueW B M R now)) := by
  obtain ⟨mb, a, n, c, h1, h2, h3, h4, h5, h6, h7, h9⟩ := h
  refine (rtdue_any w q a n c B M R L2 h2 (by have := h2.len; omega) hnR now (by omega)).mono ?_
  rintro e w' ⟨a1, c1, a2, c2, he, ho1, ho2, a', n', c', t, hlow, hm⟩
  exact ⟨a1, _, c1, a2, _, c2, he, rfl, rfl, Rd.ofOwn ho1, Rd.ofOwn ho2, hm, TSt.two h1 h3 h5 h6 h7 h9 t hlow hm⟩
theorem tst_wait1 (h : TSt gs w0 w p q B M R L1 L2) (n : Nat) (k : Int) (hk : (Lit.int .i64 k).wf = true) : Calls Try.prog 10 #[.pointer (some ⟨p, 0, none⟩), .int .i64 k] (w.drewN n) fun e w' => e = .returned (.int .i64 (waitN B M k.toNat : Int)) ∧ w' = w.drewN n := by
  obtain ⟨mb, a, n0, c, h1, h2, h3, h4, h5, h6, h7, h9⟩ := h
  exact (twait_any _ p mb B M R L1 (h1.keep (Mod.drewN (fun _ => False) w n) (fun _ _ e => e)) k hk).mono fun e w' hh => ⟨hh.1, hh.2.symm⟩
theorem tst_wait2 (h : TSt gs w0 w p q B M R L1 L2) (n : Nat) (k : Int) (hk : (Lit.int .i64 k).wf = true) : Calls Try.prog 11 #[.pointer (some ⟨q, 0, none⟩), .int .i64 k] (w.drewN n) fun e w' => e = .returned (.int .i64 (waitN B M k.toNat : Int)) ∧ w' = w.drewN n := by
  obtain ⟨mb, a, n0, c, h1, h2, h3, h4, h5, h6, h7, h9⟩ := h
  have h8 := h2.keep (Mod.drewN (fun _ => False) w n) (fun e => e) (fun _ _ e => e.elim)
  exact (rtwait_at _ q _ B M R h8.b1 h8.bm h8.mx h8.blk k hk).mono fun e w' hh => ⟨hh.1, hh.2.symm⟩
theorem tst_len1 (h : TSt gs w0 w p q B M R L1 L2) (n : Nat) : Calls Try.prog 20 #[.pointer (some ⟨p, 0, none⟩)] (w.drewN n) fun e w' => e = .returned (.int .i64 (L1.length : Int)) ∧ w' = w.drewN n := by
  obtain ⟨mb, a, n0, c, h1, h2, h3, h4, h5, h6, h7, h9⟩ := h
  exact (tlen_any _ p mb B M R L1 (h1.keep (Mod.drewN (fun _ => False) w n) (fun _ _ e => e))).mono fun e w' hh => ⟨hh.1, hh.2.symm⟩
theorem TSt.box (h : TSt gs w0 w p q B M R L1 L2) (T : TypeId) (cs : List Value) : TSt [(w.heap.size, T, cs)] w0 (w.alloc (.cells cs.toArray T)) p q B M R L1 L2 := by
  obtain ⟨mb, a, n, c, h1, h2, h3, h4, h5, h6, h7, h9⟩ := h
  have ha : Mod (fun _ => False) w (w.alloc (.cells cs.toArray T)) := Mod.alloc _ _ _
  refine ⟨mb, a, n, c, h1.keep ha (fun _ _ e => e), h2.keep ha (fun e => e) (fun _ _ e => e.elim), h3, h4, h5, h6, h7.of2 ha, fun x hx => ?_⟩
  simp at hx
  subst hx
  exact ⟨Blk.new w T cs, fun e => by have := h1.lt _ e; simp at this, fun e => by have := h2.blk.lt; simp at e; omega⟩
theorem TSt.rest (h : TSt gs w0 w p q B M R L1 L2) : TSt [] w0 w p q B M R L1 L2 := by
  obtain ⟨mb, a, n, c, h1, h2, h3, h4, h5, h6, h7, h9⟩ := h
  exact ⟨mb, a, n, c, h1, h2, h3, h4, h5, h6, h7, fun x hx => (by simp at hx)⟩
theorem TSt.guest {g : Nat} {T : TypeId} {cs : List Value} (h : TSt [(g, T, cs)] w0 w p q B M R L1 L2) : Blk w g T cs := by
  obtain ⟨mb, a, n, c, h1, h2, h3, h4, h5, h6, h7, h9⟩ := h
  exact (h9 (g, T, cs) (by simp)).1
theorem TSt.good (h : TSt gs w0 w p q B M R L1 L2) : RiseW L1 ∧ ∀ e ∈ L1, e.n ≤ R := by
  obtain ⟨mb, a, n0, c, h1, h2, h3, h4, h5, h6, h7, h9⟩ := h
  exact ⟨h1.rise, fun e he => (h1.ids e he).2⟩
/-- The reference's row, as its field has it. -/
theorem TSt.cell3 (h : TSt gs w0 w p q B M R L1 L2) : ∃ a c, w.cell? ⟨q, 3, none⟩ = some (.slice a L2.length c) := by
  obtain ⟨mb, a, n0, c, h1, h2, h3, h4, h5, h6, h7, h9⟩ := h
  exact ⟨a, c, by rw [h2.len]; exact h2.blk.cell 3 rfl⟩
end
end Go.Proofs.Ytncjmdpepdfjbaa
