/- TakerActs walked. -/
import Derived.Test.YtffcoajodpfngaaRK2
import Derived.Test.YtffcoajodpfngaaAwake26
import Derived.Test.YtffcoajodpfngaaOpensBI
namespace Go.Proofs.Ytffcoajodpfngaa
open Go.RowKit Mile
set_option maxRecDepth 100000
theorem heldI_1 (w : World) (p r M N : Nat) (f : Hld) (h : TK w p r M N f) (hNb : N ≤ 1000000000000) : Calls Try.prog 14 #[.pointer (some ⟨p, 0, none⟩)] w fun e w' => ∃ v, e = .returned v ∧ IRow (heldT f N M) v w' ∧ Mod (fun _ => False) w w' := by
  refine (tkheld_any w p r M N f h hNb).mono ?_
  rintro e w' ⟨a, c, he, ho, hm⟩
  exact ⟨_, he, ⟨a, c, rfl, Rd.ofOwn ho⟩, hm⟩
theorem heldI_2 (w : World) (q : Nat) (a : Option Addr) (n c M N : Nat) (L : List Ud) (f : Hld) (h : RK w q a n c M N L) (hh : HL f L) (hs : ∀ s, f s ≠ none → N ≤ s ∧ s < N + M) : Calls Try.prog 15 #[.pointer (some ⟨q, 0, none⟩)] w fun e w' => ∃ v, e = .returned v ∧ IRow (heldT f N M) v w' ∧ Mod (fun _ => False) w w' := by
  have hl := hh.len hs
  refine (rkheld_any w q a n c M N L h (by have := h.len; have := h.w16; omega)).mono ?_
  rintro e w' ⟨a', c', he, ho, hm⟩
  have hx := hh.held hs
  have hn : n = (heldT f N M).length := by rw [hx, List.length_map]; exact h.len.symm
  refine ⟨_, he, ⟨a', c', by rw [hn], ?_⟩, hm⟩
  have hr := Rd.ofOwn ho
  rw [← hx] at hr
  rw [← hn]
  exact hr
/-- Both takers at a world w, made since w0. -/
def KSt (w0 w : World) (p r q M N : Nat) (f : Hld) : Prop :=
  TK w p r M N f ∧ ∃ a n c L, RK w q a n c M N L ∧ HL f L ∧ q ≠ p ∧ q ≠ r ∧ (∀ k, (Value.slice a n c).ownBlock = some k → (k = p ∨ k = r) → n = 0) ∧ w0.heap.size ≤ p ∧ w0.heap.size ≤ r ∧ w0.heap.size ≤ q ∧ Mod (fun _ => False) w0 w
theorem KSt.mod {w0 w : World} {p r q M N : Nat} {f : Hld} (h : KSt w0 w p r q M N f) : Mod (fun _ => False) w0 w := by
  obtain ⟨_, _, _, _, _, _, _, _, _, _, _, _, _, h⟩ := h; exact h
theorem KSt.keep {w0 w w' : World} {p r q M N : Nat} {f : Hld} (h : KSt w0 w p r q M N f) (hm : Mod (fun _ => False) w w') : KSt w0 w' p r q M N f := by
  obtain ⟨h1, a, n, c, L, h2, h3, h4, h5, h6, h7, h8, h9, h10⟩ := h
  exact ⟨h1.keep hm, a, n, c, L, h2.later hm, h3, h4, h5, h6, h7, h8, h9, h10.of2 hm⟩
/-- A body that is not taken. -/
theorem kst_no {w0 w : World} {p r q M N : Nat} {f : Hld} (h : KSt w0 w p r q M N f) (hNb : N ≤ 1000000000) (sv : Int) (hsw : (Lit.int .i64 sv).wf = true) (hno : ¬ ((N : Int) ≤ sv ∧ sv < (N : Int) + (M : Int) ∧ f sv.toNat = none)) (a : Option Addr) (n c : Nat) :
    (Calls Try.prog 9 #[.pointer (some ⟨p, 0, none⟩), .int .i64 sv, .slice a n c] w fun e w' => e = .returned (.tuple #[.slice none 0 0, .bool false]) ∧ KSt w0 w' p r q M N f) ∧
    (Calls Try.prog 10 #[.pointer (some ⟨q, 0, none⟩), .int .i64 sv, .slice a n c] w fun e w' => e = .returned (.tuple #[.slice none 0 0, .bool false]) ∧ KSt w0 w' p r q M N f) := by
  have hk := h
  obtain ⟨h1, a2, n2, c2, L, h2, h3, h4, h5, h6, h7, h8, h9, h10⟩ := h
  have hsup := h1.sup
  have hl := h3.len hsup
  have h0 : ¬ sv < (N : Int) → sv < (N : Int) + (M : Int) → f sv.toNat ≠ none := fun x y z => hno ⟨by omega, y, z⟩
  constructor
  · refine (tktake_no w p r M N f h1 (by omega) sv ?_ a n c).mono fun e w' hh => ⟨hh.1, hk.keep hh.2⟩
    by_cases e1 : sv < (N : Int)
    · exact .inl e1
    · by_cases e2 : (N : Int) + (M : Int) ≤ sv
      · exact .inr (.inl e2)
      · exact .inr (.inr ⟨sv.toNat, by omega, h0 e1 (by omega)⟩)
  · refine (rktake_no w q a2 n2 c2 M N L h2 h3.1 (by have := h2.len; have := h2.w16; omega) (by omega) sv hsw ?_ a n c).mono fun e w' hh => ⟨hh.1, hk.keep hh.2⟩
    by_cases e1 : sv < (N : Int)
    · exact .inl e1
    · by_cases e2 : (N : Int) + (M : Int) ≤ sv
      · exact .inr (.inl ⟨e1, e2⟩)
      · refine .inr (.inr ⟨e1, by omega, ?_⟩)
        have h11 := h0 e1 (by omega)
        cases hf : f sv.toNat with
        | none => exact absurd hf h11
        | some b =>
          obtain ⟨e, he, hs, _⟩ := (h3.2 _ _).1 hf
          obtain ⟨i, hi, rfl⟩ := List.mem_iff_getElem.1 he
          exact ⟨i, hi, by rw [hs]; omega⟩
/-- A body that both take, the code's first. -/
theorem kst_one {w0 w : World} {p r q M N : Nat} {f : Hld} (h : KSt w0 w p r q M N f) (hNb : N ≤ 1000000000) (s : Nat) (hs1 : N ≤ s) (hs2 : s < N + M) (hf : f s = none) (a : Option Addr) (n c : Nat) (bs : List Int) (hn : bs.length = n) (hr : Rd w 1 (.slice a n c) n (bs.map (Value.int .u8))) (hnb : n ≤ 100000) :
    Calls Try.prog 9 #[.pointer (some ⟨p, 0, none⟩), .int .i64 (s : Int), .slice a n c] w fun e w' => ∃ a1 n1 c1 vs, e = .returned (.tuple #[.slice a1 n1 c1, .bool true]) ∧ (runL (putH f s bs) M N).length = n1 ∧ Rd w' 1 (.slice a1 n1 c1) n1 vs ∧ BodiesU w' (runL (putH f s bs) M N) vs ∧ (∀ k, (Value.slice a1 n1 c1).ownBlock = some k → k ≠ q) ∧
      TK w' p r M (N + n1) (fromH (putH f s bs) (N + n1)) ∧ Rd w' 1 (.slice a n c) n (bs.map (Value.int .u8)) ∧ (∃ a n c L, RK w' q a n c M N L ∧ HL f L) ∧ q ≠ p ∧ q ≠ r ∧ p < w'.heap.size ∧ r < w'.heap.size ∧ w0.heap.size ≤ p ∧ w0.heap.size ≤ r ∧ w0.heap.size ≤ q ∧ Mod (fun _ => False) w0 w' := by
  obtain ⟨h1, a2, n2, c2, L, h2, h3, h4, h5, h6, h7, h8, h9, h10⟩ := h
  refine (tktake_low w p r M N f h1 (by omega) s ⟨hs1, hs2⟩ hf a n c bs hn hr hnb).mono ?_
  rintro e w' ⟨a1, n1, c1, vs, he, hl, hr1, hb, htk, hm, hlow⟩
  have hG : ∀ k, k < w.heap.size → (k = p ∨ k = r) → NoB w k := fun k _ e => by rcases e with rfl | rfl; exact h1.noP; exact h1.noR
  have hql := h2.blk.lt
  have hbu := BodyU.keep (show BodyU w bs (.slice a n c) from ⟨a, n, c, rfl, hn, hr⟩) hm hG
  obtain ⟨_, _, _, hv, _, hr2⟩ := hbu
  cases hv
  have hpl : p < w.heap.size := h1.blk.lt
  have hrl : r < w.heap.size := by obtain ⟨cs, hcs, _⟩ := h1.row; exact hcs.lt
  exact ⟨a1, n1, c1, vs, he, hl, hr1, hb.u, fun k hk e => by have := hlow k hk; omega, htk, hr2, ⟨a2, n2, c2, L, h2.keep hm (fun e => e.elim h4 h5) h6 hG, h3⟩, h4, h5, by have := hm.size; omega, by have := hm.size; omega, h7, h8, h9, h10.old hm (fun k hk => by rcases hk with e | e <;> omega)⟩
theorem TK.keepQ {w w' : World} {p r q M N : Nat} {f : Hld} (h : TK w p r M N f) (hk : Mod (fun k => k = q) w w') (hp : q ≠ p) (hr : q ≠ r) (hb : NoB w q) : TK w' p r M N f := by
  obtain ⟨cs, h1, h2, h3⟩ := h.row
  refine ⟨h.W0, h.W16, h.ne, h.blk.keep hk (fun e => hp e.symm), ⟨cs, h1.keep hk (fun e => hr e.symm), h2, fun s a b => ?_⟩, h.sup⟩
  obtain ⟨g1, v, g2, x, n, c, rfl, hn, hrd, hap⟩ := h3 s a b
  exact ⟨g1, _, g2, x, n, c, rfl, hn, hrd.keepA hk (fun k k1 k2 => by rw [rd_noB hrd k1 (by rw [k2]; exact hb)]; rfl), hap⟩
theorem Ev.bu {w : World} {gs : List (List Int)} {vs : List Value} (h : BodiesU w gs vs) : Ev (fun W => BodiesU W gs vs) w := fun _ m => h.keep m (fun _ _ e => e.elim)
theorem ownlit8 (w : World) (x : Int) (g : Nat) (hg : g = w.heap.size) : (w.alloc (.cells #[.int .u8 x] 5)).ownsRow 0 5 1 (.slice (some ⟨g, 0, none⟩) 1 1) 1 [.int .u8 x] := by
  subst hg; exact World.ownsRow_lit (base := 0) (e := 5) (size := 1) w #[.int .u8 x] 1 (Nat.zero_le _) (by decide) rfl
/-- What each operation of the statement leaves. -/
def ka_r15_0_F (p : Nat) (q : Nat) (M : Nat) (N : Nat) (f : Hld) : List (Value → World → Prop) :=
  [IsV (.slice none 0 0),
   IsV (.slice none 0 0),
   IsV (.bool true),
   IsV (.bool false),
   IsV (.bool false),
   IsV (.bool false),
   IsV (.bool false),
   IsV (.bool false),
   IsV (.bool false),
   IsV (.bool false),
   IsV (.pointer (some ⟨p, 0, none⟩)),
   IsV (.int .i64 (N : Int)),
   IsV (.pointer (some ⟨q, 0, none⟩)),
   IsV (.pointer (some ⟨q, 0, none⟩)),
   IsV (.pointer (some ⟨q, 1, none⟩)),
   IsV (.int .i64 (N : Int)),
   IsV (.bool false),
   IsV (.bool false),
   IsV (.bool false),
   IsV (.pointer (some ⟨p, 0, none⟩)),
   (IRow (heldT f N M)),
   IsV (.pointer (some ⟨q, 0, none⟩)),
   (IRow (heldT f N M)),
   IsV (.bool true),
   IsV (.bool false),
   IsV (.bool false)]
def ka_r15_0_D : List (List Nat) := [[], [], [0, 1], [2], [3], [4], [4], [4, 5, 6], [4, 7], [8], [9], [9, 10], [9], [9, 12], [9, 13], [9, 14], [9, 11, 15], [9, 16], [17], [18], [18, 19], [18], [18, 21], [18, 20, 22], [18, 23], [18, 24]]

/-- What each operation of the statement leaves. -/
def ka_r15_1_F (p : Nat) (q : Nat) (M : Nat) (N2 : Nat) (d1 : Nat) (d2 : Nat) (nx : Nat) (x1 : Option Addr) (x2 : Option Addr) (f2 : Hld) : List (Value → World → Prop) :=
  [IsV (.slice x1 nx d1),
   IsV (.slice x2 nx d2),
   IsV (.bool true),
   IsV (.bool false),
   IsV (.bool false),
   IsV (.bool true),
   IsV (.bool true),
   IsV (.bool false),
   IsV (.bool false),
   IsV (.bool false),
   IsV (.pointer (some ⟨p, 0, none⟩)),
   IsV (.int .i64 (N2 : Int)),
   IsV (.pointer (some ⟨q, 0, none⟩)),
   IsV (.pointer (some ⟨q, 0, none⟩)),
   IsV (.pointer (some ⟨q, 1, none⟩)),
   IsV (.int .i64 (N2 : Int)),
   IsV (.bool false),
   IsV (.bool false),
   IsV (.bool false),
   IsV (.pointer (some ⟨p, 0, none⟩)),
   (IRow (heldT f2 N2 M)),
   IsV (.pointer (some ⟨q, 0, none⟩)),
   (IRow (heldT f2 N2 M)),
   IsV (.bool true),
   IsV (.bool false),
   IsV (.bool false)]
def ka_r15_1_D : List (List Nat) := [[], [], [0, 1], [2], [3], [4], [4], [4, 5, 6], [4, 7], [8], [9], [9, 10], [9], [9, 12], [9, 13], [9, 14], [9, 11, 15], [9, 16], [17], [18], [18, 19], [18], [18, 21], [18, 20, 22], [18, 23], [18, 24]]

set_option maxHeartbeats 32000000 in
theorem kacts_all (w : World) (wv : Int) (hwf : (Lit.int .i64 wv).wf = true) (a0 : Option Addr) (m c0 : Nat) (l : List Int) (hm : l.length = m) (hr : Rd w 1 (.slice a0 m c0) m (l.map (Value.int .i64))) (hok : ∀ x ∈ l, (Lit.int .i64 x).wf = true) (a1 : Option Addr) (m1 c1 : Nat) (bs : List Int) (hm1 : bs.length = m1) (hr1 : Rd w 1 (.slice a1 m1 c1) m1 (bs.map (Value.int .u8))) :
    Calls Try.prog 3 #[.int .i64 wv, .slice a0 m c0, .slice a1 m1 c1] w fun e w' => e = .returned (.bool true) ∧ Mod (fun _ => False) w w' := by
  obtain ⟨iI, hiI, hzI, hsI, hbI⟩ := info_parts Tk.info3
  obtain ⟨i8, hi8, hz8, hs8, hb8⟩ := info_parts RK.info8
  have HRD := Lib.hid hr
  have HRB := Lib.hid hr1
  have HLN := Lib.hid hm
  have HLB := Lib.hid hm1
  have HOK := Lib.hid hok
  clear hr hr1 hm hm1 hok
  by_cases h100 : 100 < m
  case pos =>
    have z0 : decide (100 < (m : Int)) = true := by simp; omega
    have z1 : decide (100 < m) = true := by simpa using h100
    go_enter Try.func3, Try.ntmps3
    go_wp2_with fail
    refine (awake26_any _).mono ?_
    rintro e w9 ⟨rfl, hm9⟩
    go_wp2_with fail
    go_ret
    exact ⟨rfl, hm9⟩
  case neg =>
  have z0 : decide (100 < (m : Int)) = false := by simp; omega
  have z1 : decide (100 < m) = false := by simp; omega
  by_cases h40 : 40 < m1
  case pos =>
    have z2 : decide (40 < (m1 : Int)) = true := by simp; omega
    have z3 : decide (40 < m1) = true := by simpa using h40
    go_enter Try.func3, Try.ntmps3
    go_wp2_with fail
    refine (awake26_any _).mono ?_
    rintro e w9 ⟨rfl, hm9⟩
    go_wp2_with fail
    go_ret
    exact ⟨rfl, hm9⟩
  case neg =>
  have z2 : decide (40 < (m1 : Int)) = false := by simp; omega
  have z3 : decide (40 < m1) = false := by simp; omega
  have hm100 : m ≤ 100 := by omega
  have hm40 : m1 ≤ 40 := by omega
  clear h100 h40
  by_cases hwv : 1 ≤ wv ∧ wv ≤ 16
  case neg =>
    have HNO := Lib.hid hwv
    clear hwv
    go_enter Try.func3, Try.ntmps3
    go_wp2_with fail
    refine (tknew_no _ wv HNO.out).mono ?_
    rintro e w' ⟨rfl, rfl⟩
    go_wp2_with fail
    refine (rknew_no _ wv HNO.out).mono ?_
    rintro e w' ⟨rfl, rfl⟩
    go_wp2_with fail
    refine (awake26_any _).mono ?_
    rintro e w9 ⟨rfl, hm9⟩
    go_wp2_with fail
    go_ret
    exact ⟨rfl, hm9⟩
  case pos =>
  obtain ⟨M, rfl⟩ := Int.eq_ofNat_of_zero_le (show 0 ≤ wv by omega)
  have hM1 : 1 ≤ M := by omega
  have hM16 : M ≤ 16 := by omega
  have HM16 := Lib.hid hM16
  clear hwv hwf
  go_enter Try.func3, Try.ntmps3
  go_wp2_with fail
  refine (tknew_any w M hM1 hM16).mono ?_
  rintro e w1 ⟨p, r, rfl, h1, hp, hr, hm1_⟩
  have H1 := Lib.hid h1
  have HM1 := Lib.hid hm1_
  have HP := Lib.hid hp
  have HR := Lib.hid hr
  clear h1 hm1_ hp hr
  go_wp2_with fail
  refine (rknew_any w1 M hM1 hM16).mono ?_
  rintro e w2 ⟨q, rfl, h2, hq, hm2⟩
  have hplt := H1.out.blk.lt
  have hrlt : r < w1.heap.size := by obtain ⟨cs, hcs, _⟩ := H1.out.row; exact hcs.lt
  have HT : Hid (KSt w w2 p r q M 0 (fun _ => none)) := Lib.hid ⟨H1.out.keep hm2, none, 0, 0, [], h2, HL.nil, by omega, by omega, fun k hk => (by cases hk), HP.out, HR.out, Nat.le_trans HM1.out.size hq, HM1.out.of2 hm2⟩
  clear h2 hq hm2 hplt hrlt H1 HM1 HP HR
  go_wp2_with fail
  go_loopw [10] (fun i wr => ∃ (j N : Nat) (f : Hld), j ≤ m ∧ i = .int .i64 j ∧ KSt w wr p r q M N f ∧ N ≤ 16 * j) (fun i _ => m - (intOf i).toNat)
  case atStart => exact ⟨0, 0, _, by omega, rfl, HT.out, Nat.le_refl _⟩
  case round =>
    obtain ⟨j, N, f, hj, rfl, ht, hNj⟩ := hrel
    obtain ⟨wo, hwo⟩ : ∃ x : World, x = wr := ⟨_, rfl⟩
    subst hwo
    have HT1 := Lib.hid ht
    have hN6 : N ≤ 2000 := by omega
    have HNJ := Lib.hid hNj
    clear ht HT hNj
    by_cases hlt : j < m
    case neg =>
      have y0 : decide ((j : Int) < (m : Int)) = false := by simp; omega
      have y1 : decide (j < m) = false := by simpa using hlt
      go_wp2_with fail
      refine (awake26_any _).mono ?_
      rintro e w9 ⟨rfl, hm9⟩
      go_wp2_with fail
      go_ret
      exact ⟨rfl, HT1.out.mod.of2 hm9⟩
    case pos =>
      have y0 : decide ((j : Int) < (m : Int)) = true := by simp; omega
      have y1 : decide (j < m) = true := by simpa using hlt
      have hjl : j < l.length := by rw [HLN.out]; exact hlt
      have hcv : IntKind.u8.wrap (j : Int) = (j : Int) := by simp [IntKind.wrap, IntKind.signed, IntKind.bits]; omega
      have hrb := HRB.out.keep HT1.out.mod (fun _ _ e => e)
      go_upto_region 13 with (at_builtin; refine wpList_append_any rfl (.tmp 57) (.tmp 58) 23 rfl 5 i8 (.int .u8 0) 1 1 Try.underlying23 hi8 hz8 hs8 hb8 rfl (by decide) _ 1 [.int .u8 (j : Int)] rfl (ownlit8 wo _ _ rfl) _ m1 (bs.map (Value.int .u8)) rfl (hrb.alloc _) (by intro u hu; obtain ⟨_, _, rfl⟩ := List.mem_map.1 hu; rfl) (by unfold maxLen; omega) (by omega) ?_; intro v4 w4 hap)
      obtain ⟨ac, cc, rfl⟩ := hap.form
      have hmc : Mod (fun _ => False) wo w4 := (Mod.alloc (fun _ => False) wo (.cells #[.int .u8 (j : Int)] 5)).old hap.mod (fun i hi => by have h9 : wo.heap.size = i := Option.some.inj hi; omega)
      have hrc : Rd w4 1 (.slice ac (1 + m1) cc) (1 + m1) (((j : Int) :: bs).map (Value.int .u8)) := Rd.ofOwn hap.own
      have HRC := Lib.hid hrc
      have HT2 := Lib.hid (HT1.out.keep hmc)
      have HRL := Lib.hid (HRD.out.keep HT2.out.mod (fun _ _ e => e))
      have HBL : Hid (((j : Int) :: bs).length = 1 + m1) := Lib.hid (by rw [List.length_cons, HLB.out]; omega)
      obtain ⟨body, hbd⟩ : ∃ b, ((j : Int) :: bs) = b := ⟨_, rfl⟩
      rw [hbd] at HRC HBL
      obtain ⟨nb, hnb⟩ : ∃ x, 1 + m1 = x := ⟨_, rfl⟩
      rw [hnb] at HRC HBL ⊢
      have hnb4 : nb ≤ 41 := by omega
      clear hap hmc hrc HT1 hrb hcv hbd hnb
      have hsvw := HOK.out _ (List.getElem_mem hjl)
      obtain ⟨eb, eo, hpl, hz0⟩ := rd1 HRL.out j hjl
      clear hz0
      have hix := fun wx => run_indexS (P := Try.prog) wx 22 3 iI 1 Try.underlying22 hiI hsI a0 m c0 j hlt (HRL.out.some_ (by omega))
      rw [hpl] at hix
      have hall : ∀ W, Mod (fun _ => False) w W → W.cell? ⟨eb, eo, none⟩ = some (.int .i64 l[j]) := fun W hm => by have h := (HRD.out.keep hm (fun _ _ e => e)).elem (j := j) (u := .int .i64 l[j]) (by simp [hjl]); rw [hpl] at h; exact h
      obtain ⟨sv, hsv⟩ : ∃ x, l[j] = x := ⟨_, rfl⟩
      rw [hsv] at hall hsvw
      have HSW := Lib.hid hsvw
      have HALL := Lib.hid hall
      clear hsvw hsv hpl hall HRL
      have e0 := HALL.out _ HT2.out.mod
      by_cases hyes : (N : Int) ≤ sv ∧ sv < (N : Int) + (M : Int) ∧ f sv.toNat = none
      case neg =>
        have HNO := Lib.hid hyes
        clear hyes
        go_wp2_with fail
        refine (kst_no HT2.out (by omega) sv HSW.out HNO.out ac nb cc).1.mono ?_
        rintro e w5 ⟨rfl, ht5⟩
        have HT5 := Lib.hid ht5
        clear ht5 HT2 e0
        have e0 := HALL.out _ HT5.out.mod
        go_wp2_with fail
        refine (kst_no HT5.out (by omega) sv HSW.out HNO.out ac nb cc).2.mono ?_
        rintro e w6 ⟨rfl, ht6⟩
        have HT6 := Lib.hid ht6
        have hk6 := ht6
        clear ht6 HT5 e0
        obtain ⟨h1, a2, n2, c2, L2, h2, h3, _⟩ := hk6
        have HHL := Lib.hid h3
        have HSU := Lib.hid h1.sup
        have HN2 : Hid (N ≤ 3000) := Lib.hid (by omega)
        have HNX : Hid (([] : List (List Int)).length = 0) := Lib.hid rfl
        have HNB : Hid (0 ≤ 16) := Lib.hid (by omega)
        have HS : Hid (Ev (Mod (fun _ => False) w6) w6) := Lib.hid (Ev.mod w6)
        replace HS := Lib.hid ((Ev.tk h1).and HS.out)
        replace HS := Lib.hid ((Ev.rk h2).and HS.out)
        replace HS := Lib.hid ((Ev.blk h2.blk).and HS.out)
        replace HS := Lib.hid ((Ev.rd (Rd.nil w6 1)).and HS.out)
        replace HS := Lib.hid ((Ev.rd (Rd.nil w6 1)).and HS.out)
        replace HS := Lib.hid ((Ev.bu (BodiesU.nil w6)).and HS.out)
        replace HS := Lib.hid ((Ev.bu (BodiesU.nil w6)).and HS.out)
        have hbq := (HS.out.now).2.2.2.2.1
        have qq_0 := hbq.cell 0 rfl
        have qq_1 := hbq.cell 1 rfl
        have qq_2 := hbq.cell 2 rfl
        have lq := hbq.lt
        clear hbq
        clear h1 h2 h3
        go_upto_region 15 with fail
        clear qq_0 qq_1 qq_2 lq
        have HSd := Lib.hid HS.out.drew
        refine wp_region_inv3 (act := ?actka_r15_0) (Mod (fun _ => False)) (fun i => (ka_r15_0_F p q M N f).getD i (fun _ _ => True)) (fun i => ka_r15_0_D.getD i []) (by kernel_rfl) (by kernel_rfl) (by kernel_rfl) (by kernel_rfl) (fun _ => Mod.refl _ _)
          (fun _ _ _ h k => h.trans k (fun _ _ e => e) (fun _ _ e => e)) ?hactka_r15_0 (stable_list ?_) ?_ ?_
        case hactka_r15_0 => intro vs; simp only [putAll, Nat.zero_add, Nat.reduceAdd, Act.put, List.setIfInBounds_toArray, List.set_cons_succ, List.set_cons_zero]; exact rfl
        · unfold ka_r15_0_F
          exact stable_cons (stable_val _) <| stable_cons (stable_val _) <| stable_cons (stable_val _) <| stable_cons (stable_val _) <| stable_cons (stable_val _) <| stable_cons (stable_val _) <| stable_cons (stable_val _) <| stable_cons (stable_val _) <| stable_cons (stable_val _) <| stable_cons (stable_val _) <| stable_cons (stable_val _) <| stable_cons (stable_val _) <| stable_cons (stable_val _) <| stable_cons (stable_val _) <| stable_cons (stable_val _) <| stable_cons (stable_val _) <| stable_cons (stable_val _) <| stable_cons (stable_val _) <| stable_cons (stable_val _) <| stable_cons (stable_val _) <| stable_cons (IRow.st _) <| stable_cons (stable_val _) <| stable_cons (IRow.st _) <| stable_cons (stable_val _) <| stable_cons (stable_val _) <| stable_cons (stable_val _) <| stable_nil
        · refine opsOkA_cons ?_ ?_
          · intro K vs W hR hD hK
            clear hD
            try dsimp only at hK ⊢
            simp only [Act.put, List.setIfInBounds_toArray, List.set_cons_succ, List.set_cons_zero] at hK
            go_wp2
            exact hK _ _ rfl (Mod.refl _ _)
          refine opsOkA_cons ?_ ?_
          · intro K vs W hR hD hK
            clear hD
            try dsimp only at hK ⊢
            simp only [Act.put, List.setIfInBounds_toArray, List.set_cons_succ, List.set_cons_zero] at hK
            go_wp2
            exact hK _ _ rfl (Mod.refl _ _)
          refine opsOkA_cons ?_ ?_
          · intro K vs W hR hD hK
            have dq0 : vs 0 = .slice none 0 0 := hD 0 (by decide)
            have dq1 : vs 1 = .slice none 0 0 := hD 1 (by decide)
            clear hD
            try dsimp only at hK ⊢
            simp only [Act.put, List.setIfInBounds_toArray, List.set_cons_succ, List.set_cons_zero] at hK
            generalize vs 0 = vq0 at hK dq0 ⊢
            subst vq0
            generalize vs 1 = vq1 at hK dq1 ⊢
            subst vq1
            go_wp2_with (go_at_call 11; refine (rows_same W none 0 0 [] none 0 [] [] HNX.out (by have := HNB.out; omega) ((HSd.out.at (hR)).2.2.2.1) ((HSd.out.at (hR)).2.2.1) ((HSd.out.at (hR)).2.1) ((HSd.out.at (hR)).1)).mono ?_; rintro e' w' ⟨rfl, hm'⟩)
            exact hK _ _ rfl hm'
          refine opsOkA_cons ?_ ?_
          · intro K vs W hR hD hK
            have dq2 : vs 2 = .bool true := hD 2 (by decide)
            clear hD
            try dsimp only at hK ⊢
            simp only [Act.put, List.setIfInBounds_toArray, List.set_cons_succ, List.set_cons_zero] at hK
            generalize vs 2 = vq2 at hK dq2 ⊢
            subst vq2
            go_wp2
            exact hK _ _ rfl (Mod.refl _ _)
          refine opsOkA_cons ?_ ?_
          · intro K vs W hR hD hK
            have dq3 : vs 3 = .bool false := hD 3 (by decide)
            clear hD
            try dsimp only at hK ⊢
            simp only [Act.put, List.setIfInBounds_toArray, List.set_cons_succ, List.set_cons_zero] at hK
            generalize vs 3 = vq3 at hK dq3 ⊢
            subst vq3
            go_wp2
            exact hK _ _ rfl (Mod.refl _ _)
          refine opsOkA_cons ?_ ?_
          · intro K vs W hR hD hK
            have dq4 : vs 4 = .bool false := hD 4 (by decide)
            clear hD
            try dsimp only at hK ⊢
            simp only [Act.put, List.setIfInBounds_toArray, List.set_cons_succ, List.set_cons_zero] at hK
            generalize vs 4 = vq4 at hK dq4 ⊢
            subst vq4
            go_wp2
            exact hK _ _ rfl (Mod.refl _ _)
          refine opsOkA_cons ?_ ?_
          · intro K vs W hR hD hK
            have dq4 : vs 4 = .bool false := hD 4 (by decide)
            clear hD
            try dsimp only at hK ⊢
            simp only [Act.put, List.setIfInBounds_toArray, List.set_cons_succ, List.set_cons_zero] at hK
            generalize vs 4 = vq4 at hK dq4 ⊢
            subst vq4
            go_wp2
            exact hK _ _ rfl (Mod.refl _ _)
          refine opsOkA_cons ?_ ?_
          · intro K vs W hR hD hK
            have dq4 : vs 4 = .bool false := hD 4 (by decide)
            have dq5 : vs 5 = .bool false := hD 5 (by decide)
            have dq6 : vs 6 = .bool false := hD 6 (by decide)
            clear hD
            try dsimp only at hK ⊢
            simp only [Act.put, List.setIfInBounds_toArray, List.set_cons_succ, List.set_cons_zero] at hK
            generalize vs 4 = vq4 at hK dq4 ⊢
            subst vq4
            generalize vs 5 = vq5 at hK dq5 ⊢
            subst vq5
            generalize vs 6 = vq6 at hK dq6 ⊢
            subst vq6
            go_wp2
            exact hK _ _ rfl (Mod.refl _ _)
          refine opsOkA_cons ?_ ?_
          · intro K vs W hR hD hK
            have dq4 : vs 4 = .bool false := hD 4 (by decide)
            have dq7 : vs 7 = .bool false := hD 7 (by decide)
            clear hD
            try dsimp only at hK ⊢
            simp only [Act.put, List.setIfInBounds_toArray, List.set_cons_succ, List.set_cons_zero] at hK
            generalize vs 4 = vq4 at hK dq4 ⊢
            subst vq4
            generalize vs 7 = vq7 at hK dq7 ⊢
            subst vq7
            go_wp2
            exact hK _ _ rfl (Mod.refl _ _)
          refine opsOkA_cons ?_ ?_
          · intro K vs W hR hD hK
            have dq8 : vs 8 = .bool false := hD 8 (by decide)
            clear hD
            try dsimp only at hK ⊢
            simp only [Act.put, List.setIfInBounds_toArray, List.set_cons_succ, List.set_cons_zero] at hK
            generalize vs 8 = vq8 at hK dq8 ⊢
            subst vq8
            go_wp2
            exact hK _ _ rfl (Mod.refl _ _)
          refine opsOkA_cons ?_ ?_
          · intro K vs W hR hD hK
            have dq9 : vs 9 = .bool false := hD 9 (by decide)
            clear hD
            try dsimp only at hK ⊢
            simp only [Act.put, List.setIfInBounds_toArray, List.set_cons_succ, List.set_cons_zero] at hK
            generalize vs 9 = vq9 at hK dq9 ⊢
            subst vq9
            go_wp2
            exact hK _ _ rfl (Mod.refl _ _)
          refine opsOkA_cons ?_ ?_
          · intro K vs W hR hD hK
            have dq9 : vs 9 = .bool false := hD 9 (by decide)
            have dq10 : vs 10 = .pointer (some ⟨p, 0, none⟩) := hD 10 (by decide)
            clear hD
            try dsimp only at hK ⊢
            simp only [Act.put, List.setIfInBounds_toArray, List.set_cons_succ, List.set_cons_zero] at hK
            generalize vs 9 = vq9 at hK dq9 ⊢
            subst vq9
            generalize vs 10 = vq10 at hK dq10 ⊢
            subst vq10
            go_wp2_with (go_at_call 12; refine (tknext_any W p r M N f ((HSd.out.at (hR)).2.2.2.2.2.2.1)).mono ?_; rintro e' w' ⟨rfl, rfl⟩)
            exact hK _ _ rfl (Mod.refl _ _)
          refine opsOkA_cons ?_ ?_
          · intro K vs W hR hD hK
            have dq9 : vs 9 = .bool false := hD 9 (by decide)
            clear hD
            try dsimp only at hK ⊢
            simp only [Act.put, List.setIfInBounds_toArray, List.set_cons_succ, List.set_cons_zero] at hK
            generalize vs 9 = vq9 at hK dq9 ⊢
            subst vq9
            go_wp2
            exact hK _ _ rfl (Mod.refl _ _)
          refine opsOkA_cons ?_ ?_
          · intro K vs W hR hD hK
            have dq9 : vs 9 = .bool false := hD 9 (by decide)
            have dq12 : vs 12 = .pointer (some ⟨q, 0, none⟩) := hD 12 (by decide)
            clear hD
            try dsimp only at hK ⊢
            simp only [Act.put, List.setIfInBounds_toArray, List.set_cons_succ, List.set_cons_zero] at hK
            generalize vs 9 = vq9 at hK dq9 ⊢
            subst vq9
            generalize vs 12 = vq12 at hK dq12 ⊢
            subst vq12
            go_wp2
            exact hK _ _ rfl (Mod.refl _ _)
          refine opsOkA_cons ?_ ?_
          · intro K vs W hR hD hK
            have dq9 : vs 9 = .bool false := hD 9 (by decide)
            have dq13 : vs 13 = .pointer (some ⟨q, 0, none⟩) := hD 13 (by decide)
            clear hD
            try dsimp only at hK ⊢
            simp only [Act.put, List.setIfInBounds_toArray, List.set_cons_succ, List.set_cons_zero] at hK
            generalize vs 9 = vq9 at hK dq9 ⊢
            subst vq9
            generalize vs 13 = vq13 at hK dq13 ⊢
            subst vq13
            go_wp2
            exact hK _ _ rfl (Mod.refl _ _)
          refine opsOkA_cons ?_ ?_
          · intro K vs W hR hD hK
            have dq9 : vs 9 = .bool false := hD 9 (by decide)
            have dq14 : vs 14 = .pointer (some ⟨q, 1, none⟩) := hD 14 (by decide)
            clear hD
            try dsimp only at hK ⊢
            simp only [Act.put, List.setIfInBounds_toArray, List.set_cons_succ, List.set_cons_zero] at hK
            generalize vs 9 = vq9 at hK dq9 ⊢
            subst vq9
            generalize vs 14 = vq14 at hK dq14 ⊢
            subst vq14
            have q0 := ((HSd.out.at (hR)).2.2.2.2.1).cell 1 rfl
            go_wp2
            exact hK _ _ rfl (Mod.refl _ _)
          refine opsOkA_cons ?_ ?_
          · intro K vs W hR hD hK
            have dq9 : vs 9 = .bool false := hD 9 (by decide)
            have dq11 : vs 11 = .int .i64 (N : Int) := hD 11 (by decide)
            have dq15 : vs 15 = .int .i64 (N : Int) := hD 15 (by decide)
            clear hD
            try dsimp only at hK ⊢
            simp only [Act.put, List.setIfInBounds_toArray, List.set_cons_succ, List.set_cons_zero] at hK
            generalize vs 9 = vq9 at hK dq9 ⊢
            subst vq9
            generalize vs 11 = vq11 at hK dq11 ⊢
            subst vq11
            generalize vs 15 = vq15 at hK dq15 ⊢
            subst vq15
            go_wp2
            exact hK _ _ rfl (Mod.refl _ _)
          refine opsOkA_cons ?_ ?_
          · intro K vs W hR hD hK
            have dq9 : vs 9 = .bool false := hD 9 (by decide)
            have dq16 : vs 16 = .bool false := hD 16 (by decide)
            clear hD
            try dsimp only at hK ⊢
            simp only [Act.put, List.setIfInBounds_toArray, List.set_cons_succ, List.set_cons_zero] at hK
            generalize vs 9 = vq9 at hK dq9 ⊢
            subst vq9
            generalize vs 16 = vq16 at hK dq16 ⊢
            subst vq16
            go_wp2
            exact hK _ _ rfl (Mod.refl _ _)
          refine opsOkA_cons ?_ ?_
          · intro K vs W hR hD hK
            have dq17 : vs 17 = .bool false := hD 17 (by decide)
            clear hD
            try dsimp only at hK ⊢
            simp only [Act.put, List.setIfInBounds_toArray, List.set_cons_succ, List.set_cons_zero] at hK
            generalize vs 17 = vq17 at hK dq17 ⊢
            subst vq17
            go_wp2
            exact hK _ _ rfl (Mod.refl _ _)
          refine opsOkA_cons ?_ ?_
          · intro K vs W hR hD hK
            have dq18 : vs 18 = .bool false := hD 18 (by decide)
            clear hD
            try dsimp only at hK ⊢
            simp only [Act.put, List.setIfInBounds_toArray, List.set_cons_succ, List.set_cons_zero] at hK
            generalize vs 18 = vq18 at hK dq18 ⊢
            subst vq18
            go_wp2
            exact hK _ _ rfl (Mod.refl _ _)
          refine opsOkA_cons ?_ ?_
          · intro K vs W hR hD hK
            have dq18 : vs 18 = .bool false := hD 18 (by decide)
            have dq19 : vs 19 = .pointer (some ⟨p, 0, none⟩) := hD 19 (by decide)
            clear hD
            try dsimp only at hK ⊢
            simp only [Act.put, List.setIfInBounds_toArray, List.set_cons_succ, List.set_cons_zero] at hK
            generalize vs 18 = vq18 at hK dq18 ⊢
            subst vq18
            generalize vs 19 = vq19 at hK dq19 ⊢
            subst vq19
            go_wp2_with (go_at_call 14; refine (heldI_1 W p r M N f ((HSd.out.at (hR)).2.2.2.2.2.2.1) (by have := HN2.out; omega)).mono ?_; rintro e' w' ⟨x', rfl, hx', hm'⟩)
            exact hK _ _ hx' hm'
          refine opsOkA_cons ?_ ?_
          · intro K vs W hR hD hK
            have dq18 : vs 18 = .bool false := hD 18 (by decide)
            clear hD
            try dsimp only at hK ⊢
            simp only [Act.put, List.setIfInBounds_toArray, List.set_cons_succ, List.set_cons_zero] at hK
            generalize vs 18 = vq18 at hK dq18 ⊢
            subst vq18
            go_wp2
            exact hK _ _ rfl (Mod.refl _ _)
          refine opsOkA_cons ?_ ?_
          · intro K vs W hR hD hK
            have dq18 : vs 18 = .bool false := hD 18 (by decide)
            have dq21 : vs 21 = .pointer (some ⟨q, 0, none⟩) := hD 21 (by decide)
            clear hD
            try dsimp only at hK ⊢
            simp only [Act.put, List.setIfInBounds_toArray, List.set_cons_succ, List.set_cons_zero] at hK
            generalize vs 18 = vq18 at hK dq18 ⊢
            subst vq18
            generalize vs 21 = vq21 at hK dq21 ⊢
            subst vq21
            go_wp2_with (go_at_call 15; refine (heldI_2 W q a2 n2 c2 M N L2 f ((HSd.out.at (hR)).2.2.2.2.2.1) HHL.out HSU.out).mono ?_; rintro e' w' ⟨x', rfl, hx', hm'⟩)
            exact hK _ _ hx' hm'
          refine opsOkA_cons ?_ ?_
          · intro K vs W hR hD hK
            have dq18 : vs 18 = .bool false := hD 18 (by decide)
            have dq20 : (IRow (heldT f N M)) (vs 20) W := hD 20 (by decide)
            have dq22 : (IRow (heldT f N M)) (vs 22) W := hD 22 (by decide)
            clear hD
            try dsimp only at hK ⊢
            simp only [Act.put, List.setIfInBounds_toArray, List.set_cons_succ, List.set_cons_zero] at hK
            generalize vs 18 = vq18 at hK dq18 ⊢
            subst vq18
            generalize vs 20 = vq20 at hK dq20 ⊢
            generalize vs 22 = vq22 at hK dq22 ⊢
            obtain ⟨ax20, cx20, rfl, hx20⟩ := dq20
            obtain ⟨ax22, cx22, rfl, hx22⟩ := dq22
            go_wp2_with (go_at_call 13; refine (ints_same W _ _ _ _ rfl hx20 _ _ _ _ rfl hx22 (by have := heldT_len f N M; have := HM16.out; omega) true (decide_eq_true rfl)).mono ?_; rintro e' w' ⟨rfl, hm'⟩)
            exact hK _ _ rfl hm'
          refine opsOkA_cons ?_ ?_
          · intro K vs W hR hD hK
            have dq18 : vs 18 = .bool false := hD 18 (by decide)
            have dq23 : vs 23 = .bool true := hD 23 (by decide)
            clear hD
            try dsimp only at hK ⊢
            simp only [Act.put, List.setIfInBounds_toArray, List.set_cons_succ, List.set_cons_zero] at hK
            generalize vs 18 = vq18 at hK dq18 ⊢
            subst vq18
            generalize vs 23 = vq23 at hK dq23 ⊢
            subst vq23
            go_wp2
            exact hK _ _ rfl (Mod.refl _ _)
          refine opsOkA_cons ?_ ?_
          · intro K vs W hR hD hK
            have dq18 : vs 18 = .bool false := hD 18 (by decide)
            have dq24 : vs 24 = .bool false := hD 24 (by decide)
            clear hD
            try dsimp only at hK ⊢
            simp only [Act.put, List.setIfInBounds_toArray, List.set_cons_succ, List.set_cons_zero] at hK
            generalize vs 18 = vq18 at hK dq18 ⊢
            subst vq18
            generalize vs 24 = vq24 at hK dq24 ⊢
            subst vq24
            go_wp2
            exact hK _ _ rfl (Mod.refl _ _)
          exact opsOkA_nil
        · intro vs wq1 hR hF
          have dq25 : vs 25 = .bool false := hF 25 (by decide)
          clear hF
          try dsimp only
          generalize vs 25 = vq25 at dq25 ⊢
          subst dq25
          replace HS := Lib.hid (HSd.out.step hR)
          clear HSd hR
          have hbq := (HS.out.now).2.2.2.2.1
          have qq_0 := hbq.cell 0 rfl
          have qq_1 := hbq.cell 1 rfl
          have qq_2 := hbq.cell 2 rfl
          have lq := hbq.lt
          clear hbq
          go_wp2_with fail
          go_roundw
          case rel => exact ⟨j + 1, N, f, hlt, by go_num, HT6.out.keep ((HS.out.now).2.2.2.2.2.2.2), by have := HNJ.out; omega⟩
          case measure => simp [intOf]; omega
      case pos =>
        obtain ⟨s, rfl⟩ := Int.eq_ofNat_of_zero_le (show 0 ≤ sv by omega)
        rw [Int.toNat_natCast] at hyes
        have hs1 : N ≤ s := by omega
        have hs2 : s < N + M := by omega
        have HF := Lib.hid hyes.2.2
        have HSUP := Lib.hid HT2.out.1.sup
        clear hyes
        go_wp2_with fail
        refine (kst_one HT2.out (by omega) s hs1 hs2 HF.out ac nb cc body HBL.out HRC.out (by omega)).mono ?_
        rintro e w5 ⟨x1, nx, d1, vs1, rfl, hl1, hr1, hb1, hq1, htk, hrb5, ⟨a3, n3, c3, L3, hrk, hhl⟩, hqp, hqr, hpl, hrl, hp0, hr0, hq0, hm5⟩
        have hnx : nx ≤ 16 := by have := runL_len (putH f s body) M N; omega
        have HTK5 := Lib.hid htk
        have HK5 := Lib.hid hrk
        have HR1 := Lib.hid hr1
        have HB1 := Lib.hid hb1
        have HQ1 := Lib.hid hq1
        have HL1 := Lib.hid hl1
        have HRB5 := Lib.hid hrb5
        have HHL5 := Lib.hid hhl
        have HM5 := Lib.hid hm5
        have HPS : Hid (p < w5.heap.size ∧ r < w5.heap.size ∧ q ≠ p ∧ q ≠ r ∧ w.heap.size ≤ p ∧ w.heap.size ≤ r ∧ w.heap.size ≤ q) := Lib.hid ⟨hpl, hrl, hqp, hqr, hp0, hr0, hq0⟩
        clear htk hrk hr1 hb1 hq1 hl1 hrb5 hhl hm5 hpl hrl hqp hqr hp0 hr0 hq0 HT2 e0
        have e0 := HALL.out _ HM5.out
        go_wp2_with fail
        refine (rktake_any w5 q a3 n3 c3 M N L3 f HK5.out HHL5.out HSUP.out (by omega) s hs1 hs2 HF.out ac nb cc body HBL.out HRB5.out (by omega)).mono ?_
        rintro e w6 ⟨x2, nx2, d2, us1, rfl, hl2, hr2, hb2, a2, n2, c2, L2, h2, h3, hlow, hm6⟩
        obtain rfl : nx = nx2 := by have := HL1.out; omega
        have hnb : ∀ k, k < w5.heap.size → k = q → NoB w5 k := fun k _ e => by rw [e]; exact HK5.out.noB
        have h1 := HTK5.out.keepQ hm6 HPS.out.2.2.1 HPS.out.2.2.2.1 HK5.out.noB
        have hr1 := HR1.out.keep hm6 HQ1.out
        have hb1 := HB1.out.keep hm6 hnb
        obtain ⟨f2, hf2⟩ : ∃ g, fromH (putH f s body) (N + nx) = g := ⟨_, rfl⟩
        obtain ⟨gs, hgs⟩ : ∃ l, runL (putH f s body) M N = l := ⟨_, rfl⟩
        obtain ⟨N2, hN2⟩ : ∃ x, N + nx = x := ⟨_, rfl⟩
        rw [hN2] at hf2 h1 h2 h3
        rw [hf2] at h1 h3
        rw [hgs] at hl2 hb1 hb2
        have HT6 : Hid (KSt w w6 p r q M N2 f2) := Lib.hid ⟨h1, a2, n2, c2, L2, h2, h3, HPS.out.2.2.1, HPS.out.2.2.2.1, fun k hk e => by have h5 := hlow k hk; have h6 := HPS.out; rcases e with e | e <;> omega, HPS.out.2.2.2.2.1, HPS.out.2.2.2.2.2.1, HPS.out.2.2.2.2.2.2, HM5.out.old hm6 (fun k hk => by rw [hk]; exact HPS.out.2.2.2.2.2.2)⟩
        have HHL := Lib.hid h3
        have HSU := Lib.hid h1.sup
        have HN2 : Hid (N2 ≤ 3000) := Lib.hid (by omega)
        have HNX : Hid (gs.length = nx) := Lib.hid hl2
        have HNB : Hid (nx ≤ 16) := Lib.hid hnx
        have HNJ2 : Hid (N2 ≤ 16 * (j + 1)) := Lib.hid (by have := HNJ.out; omega)
        have HS : Hid (Ev (Mod (fun _ => False) w6) w6) := Lib.hid (Ev.mod w6)
        replace HS := Lib.hid ((Ev.tk h1).and HS.out)
        replace HS := Lib.hid ((Ev.rk h2).and HS.out)
        replace HS := Lib.hid ((Ev.blk h2.blk).and HS.out)
        replace HS := Lib.hid ((Ev.rd (hr1)).and HS.out)
        replace HS := Lib.hid ((Ev.rd (hr2)).and HS.out)
        replace HS := Lib.hid ((Ev.bu (hb1)).and HS.out)
        replace HS := Lib.hid ((Ev.bu (hb2)).and HS.out)
        have hbq := (HS.out.now).2.2.2.2.1
        have qq_0 := hbq.cell 0 rfl
        have qq_1 := hbq.cell 1 rfl
        have qq_2 := hbq.cell 2 rfl
        have lq := hbq.lt
        clear hbq
        clear h1 h2 h3 hr1 hr2 hb1 hb2 hf2 hgs hN2 hl2 hlow hm6 hnb HTK5 HK5 HR1 HB1 HQ1 HL1 HRB5 HHL5 e0
        go_upto_region 15 with fail
        clear qq_0 qq_1 qq_2 lq
        have HSd := Lib.hid HS.out.drew
        refine wp_region_inv3 (act := ?actka_r15_1) (Mod (fun _ => False)) (fun i => (ka_r15_1_F p q M N2 d1 d2 nx x1 x2 f2).getD i (fun _ _ => True)) (fun i => ka_r15_1_D.getD i []) (by kernel_rfl) (by kernel_rfl) (by kernel_rfl) (by kernel_rfl) (fun _ => Mod.refl _ _)
          (fun _ _ _ h k => h.trans k (fun _ _ e => e) (fun _ _ e => e)) ?hactka_r15_1 (stable_list ?_) ?_ ?_
        case hactka_r15_1 => intro vs; simp only [putAll, Nat.zero_add, Nat.reduceAdd, Act.put, List.setIfInBounds_toArray, List.set_cons_succ, List.set_cons_zero]; exact rfl
        · unfold ka_r15_1_F
          exact stable_cons (stable_val _) <| stable_cons (stable_val _) <| stable_cons (stable_val _) <| stable_cons (stable_val _) <| stable_cons (stable_val _) <| stable_cons (stable_val _) <| stable_cons (stable_val _) <| stable_cons (stable_val _) <| stable_cons (stable_val _) <| stable_cons (stable_val _) <| stable_cons (stable_val _) <| stable_cons (stable_val _) <| stable_cons (stable_val _) <| stable_cons (stable_val _) <| stable_cons (stable_val _) <| stable_cons (stable_val _) <| stable_cons (stable_val _) <| stable_cons (stable_val _) <| stable_cons (stable_val _) <| stable_cons (stable_val _) <| stable_cons (IRow.st _) <| stable_cons (stable_val _) <| stable_cons (IRow.st _) <| stable_cons (stable_val _) <| stable_cons (stable_val _) <| stable_cons (stable_val _) <| stable_nil
        · refine opsOkA_cons ?_ ?_
          · intro K vs W hR hD hK
            clear hD
            try dsimp only at hK ⊢
            simp only [Act.put, List.setIfInBounds_toArray, List.set_cons_succ, List.set_cons_zero] at hK
            go_wp2
            exact hK _ _ rfl (Mod.refl _ _)
          refine opsOkA_cons ?_ ?_
          · intro K vs W hR hD hK
            clear hD
            try dsimp only at hK ⊢
            simp only [Act.put, List.setIfInBounds_toArray, List.set_cons_succ, List.set_cons_zero] at hK
            go_wp2
            exact hK _ _ rfl (Mod.refl _ _)
          refine opsOkA_cons ?_ ?_
          · intro K vs W hR hD hK
            have dq0 : vs 0 = .slice x1 nx d1 := hD 0 (by decide)
            have dq1 : vs 1 = .slice x2 nx d2 := hD 1 (by decide)
            clear hD
            try dsimp only at hK ⊢
            simp only [Act.put, List.setIfInBounds_toArray, List.set_cons_succ, List.set_cons_zero] at hK
            generalize vs 0 = vq0 at hK dq0 ⊢
            subst vq0
            generalize vs 1 = vq1 at hK dq1 ⊢
            subst vq1
            go_wp2_with (go_at_call 11; refine (rows_same W x1 nx d1 vs1 x2 d2 us1 gs HNX.out (by have := HNB.out; omega) ((HSd.out.at (hR)).2.2.2.1) ((HSd.out.at (hR)).2.2.1) ((HSd.out.at (hR)).2.1) ((HSd.out.at (hR)).1)).mono ?_; rintro e' w' ⟨rfl, hm'⟩)
            exact hK _ _ rfl hm'
          refine opsOkA_cons ?_ ?_
          · intro K vs W hR hD hK
            have dq2 : vs 2 = .bool true := hD 2 (by decide)
            clear hD
            try dsimp only at hK ⊢
            simp only [Act.put, List.setIfInBounds_toArray, List.set_cons_succ, List.set_cons_zero] at hK
            generalize vs 2 = vq2 at hK dq2 ⊢
            subst vq2
            go_wp2
            exact hK _ _ rfl (Mod.refl _ _)
          refine opsOkA_cons ?_ ?_
          · intro K vs W hR hD hK
            have dq3 : vs 3 = .bool false := hD 3 (by decide)
            clear hD
            try dsimp only at hK ⊢
            simp only [Act.put, List.setIfInBounds_toArray, List.set_cons_succ, List.set_cons_zero] at hK
            generalize vs 3 = vq3 at hK dq3 ⊢
            subst vq3
            go_wp2
            exact hK _ _ rfl (Mod.refl _ _)
          refine opsOkA_cons ?_ ?_
          · intro K vs W hR hD hK
            have dq4 : vs 4 = .bool false := hD 4 (by decide)
            clear hD
            try dsimp only at hK ⊢
            simp only [Act.put, List.setIfInBounds_toArray, List.set_cons_succ, List.set_cons_zero] at hK
            generalize vs 4 = vq4 at hK dq4 ⊢
            subst vq4
            go_wp2
            exact hK _ _ rfl (Mod.refl _ _)
          refine opsOkA_cons ?_ ?_
          · intro K vs W hR hD hK
            have dq4 : vs 4 = .bool false := hD 4 (by decide)
            clear hD
            try dsimp only at hK ⊢
            simp only [Act.put, List.setIfInBounds_toArray, List.set_cons_succ, List.set_cons_zero] at hK
            generalize vs 4 = vq4 at hK dq4 ⊢
            subst vq4
            go_wp2
            exact hK _ _ rfl (Mod.refl _ _)
          refine opsOkA_cons ?_ ?_
          · intro K vs W hR hD hK
            have dq4 : vs 4 = .bool false := hD 4 (by decide)
            have dq5 : vs 5 = .bool true := hD 5 (by decide)
            have dq6 : vs 6 = .bool true := hD 6 (by decide)
            clear hD
            try dsimp only at hK ⊢
            simp only [Act.put, List.setIfInBounds_toArray, List.set_cons_succ, List.set_cons_zero] at hK
            generalize vs 4 = vq4 at hK dq4 ⊢
            subst vq4
            generalize vs 5 = vq5 at hK dq5 ⊢
            subst vq5
            generalize vs 6 = vq6 at hK dq6 ⊢
            subst vq6
            go_wp2
            exact hK _ _ rfl (Mod.refl _ _)
          refine opsOkA_cons ?_ ?_
          · intro K vs W hR hD hK
            have dq4 : vs 4 = .bool false := hD 4 (by decide)
            have dq7 : vs 7 = .bool false := hD 7 (by decide)
            clear hD
            try dsimp only at hK ⊢
            simp only [Act.put, List.setIfInBounds_toArray, List.set_cons_succ, List.set_cons_zero] at hK
            generalize vs 4 = vq4 at hK dq4 ⊢
            subst vq4
            generalize vs 7 = vq7 at hK dq7 ⊢
            subst vq7
            go_wp2
            exact hK _ _ rfl (Mod.refl _ _)
          refine opsOkA_cons ?_ ?_
          · intro K vs W hR hD hK
            have dq8 : vs 8 = .bool false := hD 8 (by decide)
            clear hD
            try dsimp only at hK ⊢
            simp only [Act.put, List.setIfInBounds_toArray, List.set_cons_succ, List.set_cons_zero] at hK
            generalize vs 8 = vq8 at hK dq8 ⊢
            subst vq8
            go_wp2
            exact hK _ _ rfl (Mod.refl _ _)
          refine opsOkA_cons ?_ ?_
          · intro K vs W hR hD hK
            have dq9 : vs 9 = .bool false := hD 9 (by decide)
            clear hD
            try dsimp only at hK ⊢
            simp only [Act.put, List.setIfInBounds_toArray, List.set_cons_succ, List.set_cons_zero] at hK
            generalize vs 9 = vq9 at hK dq9 ⊢
            subst vq9
            go_wp2
            exact hK _ _ rfl (Mod.refl _ _)
          refine opsOkA_cons ?_ ?_
          · intro K vs W hR hD hK
            have dq9 : vs 9 = .bool false := hD 9 (by decide)
            have dq10 : vs 10 = .pointer (some ⟨p, 0, none⟩) := hD 10 (by decide)
            clear hD
            try dsimp only at hK ⊢
            simp only [Act.put, List.setIfInBounds_toArray, List.set_cons_succ, List.set_cons_zero] at hK
            generalize vs 9 = vq9 at hK dq9 ⊢
            subst vq9
            generalize vs 10 = vq10 at hK dq10 ⊢
            subst vq10
            go_wp2_with (go_at_call 12; refine (tknext_any W p r M N2 f2 ((HSd.out.at (hR)).2.2.2.2.2.2.1)).mono ?_; rintro e' w' ⟨rfl, rfl⟩)
            exact hK _ _ rfl (Mod.refl _ _)
          refine opsOkA_cons ?_ ?_
          · intro K vs W hR hD hK
            have dq9 : vs 9 = .bool false := hD 9 (by decide)
            clear hD
            try dsimp only at hK ⊢
            simp only [Act.put, List.setIfInBounds_toArray, List.set_cons_succ, List.set_cons_zero] at hK
            generalize vs 9 = vq9 at hK dq9 ⊢
            subst vq9
            go_wp2
            exact hK _ _ rfl (Mod.refl _ _)
          refine opsOkA_cons ?_ ?_
          · intro K vs W hR hD hK
            have dq9 : vs 9 = .bool false := hD 9 (by decide)
            have dq12 : vs 12 = .pointer (some ⟨q, 0, none⟩) := hD 12 (by decide)
            clear hD
            try dsimp only at hK ⊢
            simp only [Act.put, List.setIfInBounds_toArray, List.set_cons_succ, List.set_cons_zero] at hK
            generalize vs 9 = vq9 at hK dq9 ⊢
            subst vq9
            generalize vs 12 = vq12 at hK dq12 ⊢
            subst vq12
            go_wp2
            exact hK _ _ rfl (Mod.refl _ _)
          refine opsOkA_cons ?_ ?_
          · intro K vs W hR hD hK
            have dq9 : vs 9 = .bool false := hD 9 (by decide)
            have dq13 : vs 13 = .pointer (some ⟨q, 0, none⟩) := hD 13 (by decide)
            clear hD
            try dsimp only at hK ⊢
            simp only [Act.put, List.setIfInBounds_toArray, List.set_cons_succ, List.set_cons_zero] at hK
            generalize vs 9 = vq9 at hK dq9 ⊢
            subst vq9
            generalize vs 13 = vq13 at hK dq13 ⊢
            subst vq13
            go_wp2
            exact hK _ _ rfl (Mod.refl _ _)
          refine opsOkA_cons ?_ ?_
          · intro K vs W hR hD hK
            have dq9 : vs 9 = .bool false := hD 9 (by decide)
            have dq14 : vs 14 = .pointer (some ⟨q, 1, none⟩) := hD 14 (by decide)
            clear hD
            try dsimp only at hK ⊢
            simp only [Act.put, List.setIfInBounds_toArray, List.set_cons_succ, List.set_cons_zero] at hK
            generalize vs 9 = vq9 at hK dq9 ⊢
            subst vq9
            generalize vs 14 = vq14 at hK dq14 ⊢
            subst vq14
            have q0 := ((HSd.out.at (hR)).2.2.2.2.1).cell 1 rfl
            go_wp2
            exact hK _ _ rfl (Mod.refl _ _)
          refine opsOkA_cons ?_ ?_
          · intro K vs W hR hD hK
            have dq9 : vs 9 = .bool false := hD 9 (by decide)
            have dq11 : vs 11 = .int .i64 (N2 : Int) := hD 11 (by decide)
            have dq15 : vs 15 = .int .i64 (N2 : Int) := hD 15 (by decide)
            clear hD
            try dsimp only at hK ⊢
            simp only [Act.put, List.setIfInBounds_toArray, List.set_cons_succ, List.set_cons_zero] at hK
            generalize vs 9 = vq9 at hK dq9 ⊢
            subst vq9
            generalize vs 11 = vq11 at hK dq11 ⊢
            subst vq11
            generalize vs 15 = vq15 at hK dq15 ⊢
            subst vq15
            go_wp2
            exact hK _ _ rfl (Mod.refl _ _)
          refine opsOkA_cons ?_ ?_
          · intro K vs W hR hD hK
            have dq9 : vs 9 = .bool false := hD 9 (by decide)
            have dq16 : vs 16 = .bool false := hD 16 (by decide)
            clear hD
            try dsimp only at hK ⊢
            simp only [Act.put, List.setIfInBounds_toArray, List.set_cons_succ, List.set_cons_zero] at hK
            generalize vs 9 = vq9 at hK dq9 ⊢
            subst vq9
            generalize vs 16 = vq16 at hK dq16 ⊢
            subst vq16
            go_wp2
            exact hK _ _ rfl (Mod.refl _ _)
          refine opsOkA_cons ?_ ?_
          · intro K vs W hR hD hK
            have dq17 : vs 17 = .bool false := hD 17 (by decide)
            clear hD
            try dsimp only at hK ⊢
            simp only [Act.put, List.setIfInBounds_toArray, List.set_cons_succ, List.set_cons_zero] at hK
            generalize vs 17 = vq17 at hK dq17 ⊢
            subst vq17
            go_wp2
            exact hK _ _ rfl (Mod.refl _ _)
          refine opsOkA_cons ?_ ?_
          · intro K vs W hR hD hK
            have dq18 : vs 18 = .bool false := hD 18 (by decide)
            clear hD
            try dsimp only at hK ⊢
            simp only [Act.put, List.setIfInBounds_toArray, List.set_cons_succ, List.set_cons_zero] at hK
            generalize vs 18 = vq18 at hK dq18 ⊢
            subst vq18
            go_wp2
            exact hK _ _ rfl (Mod.refl _ _)
          refine opsOkA_cons ?_ ?_
          · intro K vs W hR hD hK
            have dq18 : vs 18 = .bool false := hD 18 (by decide)
            have dq19 : vs 19 = .pointer (some ⟨p, 0, none⟩) := hD 19 (by decide)
            clear hD
            try dsimp only at hK ⊢
            simp only [Act.put, List.setIfInBounds_toArray, List.set_cons_succ, List.set_cons_zero] at hK
            generalize vs 18 = vq18 at hK dq18 ⊢
            subst vq18
            generalize vs 19 = vq19 at hK dq19 ⊢
            subst vq19
            go_wp2_with (go_at_call 14; refine (heldI_1 W p r M N2 f2 ((HSd.out.at (hR)).2.2.2.2.2.2.1) (by have := HN2.out; omega)).mono ?_; rintro e' w' ⟨x', rfl, hx', hm'⟩)
            exact hK _ _ hx' hm'
          refine opsOkA_cons ?_ ?_
          · intro K vs W hR hD hK
            have dq18 : vs 18 = .bool false := hD 18 (by decide)
            clear hD
            try dsimp only at hK ⊢
            simp only [Act.put, List.setIfInBounds_toArray, List.set_cons_succ, List.set_cons_zero] at hK
            generalize vs 18 = vq18 at hK dq18 ⊢
            subst vq18
            go_wp2
            exact hK _ _ rfl (Mod.refl _ _)
          refine opsOkA_cons ?_ ?_
          · intro K vs W hR hD hK
            have dq18 : vs 18 = .bool false := hD 18 (by decide)
            have dq21 : vs 21 = .pointer (some ⟨q, 0, none⟩) := hD 21 (by decide)
            clear hD
            try dsimp only at hK ⊢
            simp only [Act.put, List.setIfInBounds_toArray, List.set_cons_succ, List.set_cons_zero] at hK
            generalize vs 18 = vq18 at hK dq18 ⊢
            subst vq18
            generalize vs 21 = vq21 at hK dq21 ⊢
            subst vq21
            go_wp2_with (go_at_call 15; refine (heldI_2 W q a2 n2 c2 M N2 L2 f2 ((HSd.out.at (hR)).2.2.2.2.2.1) HHL.out HSU.out).mono ?_; rintro e' w' ⟨x', rfl, hx', hm'⟩)
            exact hK _ _ hx' hm'
          refine opsOkA_cons ?_ ?_
          · intro K vs W hR hD hK
            have dq18 : vs 18 = .bool false := hD 18 (by decide)
            have dq20 : (IRow (heldT f2 N2 M)) (vs 20) W := hD 20 (by decide)
            have dq22 : (IRow (heldT f2 N2 M)) (vs 22) W := hD 22 (by decide)
            clear hD
            try dsimp only at hK ⊢
            simp only [Act.put, List.setIfInBounds_toArray, List.set_cons_succ, List.set_cons_zero] at hK
            generalize vs 18 = vq18 at hK dq18 ⊢
            subst vq18
            generalize vs 20 = vq20 at hK dq20 ⊢
            generalize vs 22 = vq22 at hK dq22 ⊢
            obtain ⟨ax20, cx20, rfl, hx20⟩ := dq20
            obtain ⟨ax22, cx22, rfl, hx22⟩ := dq22
            go_wp2_with (go_at_call 13; refine (ints_same W _ _ _ _ rfl hx20 _ _ _ _ rfl hx22 (by have := heldT_len f2 N2 M; have := HM16.out; omega) true (decide_eq_true rfl)).mono ?_; rintro e' w' ⟨rfl, hm'⟩)
            exact hK _ _ rfl hm'
          refine opsOkA_cons ?_ ?_
          · intro K vs W hR hD hK
            have dq18 : vs 18 = .bool false := hD 18 (by decide)
            have dq23 : vs 23 = .bool true := hD 23 (by decide)
            clear hD
            try dsimp only at hK ⊢
            simp only [Act.put, List.setIfInBounds_toArray, List.set_cons_succ, List.set_cons_zero] at hK
            generalize vs 18 = vq18 at hK dq18 ⊢
            subst vq18
            generalize vs 23 = vq23 at hK dq23 ⊢
            subst vq23
            go_wp2
            exact hK _ _ rfl (Mod.refl _ _)
          refine opsOkA_cons ?_ ?_
          · intro K vs W hR hD hK
            have dq18 : vs 18 = .bool false := hD 18 (by decide)
            have dq24 : vs 24 = .bool false := hD 24 (by decide)
            clear hD
            try dsimp only at hK ⊢
            simp only [Act.put, List.setIfInBounds_toArray, List.set_cons_succ, List.set_cons_zero] at hK
            generalize vs 18 = vq18 at hK dq18 ⊢
            subst vq18
            generalize vs 24 = vq24 at hK dq24 ⊢
            subst vq24
            go_wp2
            exact hK _ _ rfl (Mod.refl _ _)
          exact opsOkA_nil
        · intro vs wq2 hR hF
          have dq25 : vs 25 = .bool false := hF 25 (by decide)
          clear hF
          try dsimp only
          generalize vs 25 = vq25 at dq25 ⊢
          subst dq25
          replace HS := Lib.hid (HSd.out.step hR)
          clear HSd hR
          have hbq := (HS.out.now).2.2.2.2.1
          have qq_0 := hbq.cell 0 rfl
          have qq_1 := hbq.cell 1 rfl
          have qq_2 := hbq.cell 2 rfl
          have lq := hbq.lt
          clear hbq
          go_wp2_with fail
          go_roundw
          case rel => exact ⟨j + 1, N2, f2, hlt, by go_num, HT6.out.keep ((HS.out.now).2.2.2.2.2.2.2), HNJ2.out⟩
          case measure => simp [intOf]; omega
theorem kacts_law (w : World) (wv : Int) (h1 : (Lit.int .i64 wv).wf = true) (a0 : Option Addr) (m c0 : Nat) (l : List Int) (ok : (encSlice (encInt .i64)).ok w (.slice a0 m c0, l)) (a1 : Option Addr) (m1 c1 : Nat) (bs : List Int) (ok1 : (encSlice (encInt .u8)).ok w (.slice a1 m1 c1, bs)) :
    Calls Try.prog 3 #[.int .i64 wv, .slice a0 m c0, .slice a1 m1 c1] w fun e w' => e = .returned (.bool true) ∧ Below w.heap.size w w' := by
  obtain ⟨hn, hr, hw⟩ := ok_ints ok
  obtain ⟨hn1, hr1, _⟩ := ok_ints ok1
  exact (kacts_all w wv h1 a0 m c0 l hn hr hw a1 m1 c1 bs hn1 hr1).mono fun _ _ h => ⟨h.1, h.2.below (Nat.le_refl _) (fun _ e => e.elim)⟩

end Go.Proofs.Ytffcoajodpfngaa
