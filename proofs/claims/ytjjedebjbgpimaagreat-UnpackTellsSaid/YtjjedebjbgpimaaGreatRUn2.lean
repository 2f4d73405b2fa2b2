/- The document's own Row, by contract. -/
import Derived.Test.YtjjedebjbgpimaaGreatRUn
import Derived.Test.YtjjedebjbgpimaaGreatKUd
namespace Go.Proofs.YtjjedebjbgpimaaGreat
open Go.RowKit Mile
set_option maxRecDepth 100000
structure RuT (r : List Int) (v : Value) (W : World) : Prop where
 h : ∃ a c, v = .tuple #[.slice a r.length c, .bool true] ∧ Rd W 1 (.slice a r.length c) r.length (r.map (Value.int .i64))
structure RuX (r : List Int) (v : Value) (W : World) : Prop where
 h : ∃ a c, v = .slice a r.length c ∧ Rd W 1 (.slice a r.length c) r.length (r.map (Value.int .i64))
theorem RuT.st (r : List Int) : ∀ v w w', RuT r v w → Mod (fun _ => False) w w' → RuT r v w' := fun _ _ _ ⟨a, c, h, o⟩ m => ⟨a, c, h, o.keep m (fun _ _ e => e)⟩
theorem RuX.st (r : List Int) : ∀ v w w', RuX r v w → Mod (fun _ => False) w w' → RuX r v w' := fun _ _ _ ⟨a, c, h, o⟩ m => ⟨a, c, h, o.keep m (fun _ _ e => e)⟩
theorem rus_some {n N : Nat} {L T : List Ar} {D : Ar → Nat} (hT : NetOk n T) (hL : NetOk n L) (hD : UnOk T D N) (hN : N ≤ 20) (hin : ∀ a ∈ T, a.m < 0 → a ∈ L) (hb : T.length ≤ 100000) {p2 tq rd : Nat} {V : List Nat} {w : World} (h : RL w p2 tq rd n T V) {f t : Int} {r : List Int} (hu : unL T (N + 1) f t = some r) :
  Calls Tryz.prog 34 #[.pointer (some ⟨p2, 0, none⟩), .int .i64 f, .int .i64 t] w fun e w' => ∃ v, e = .returned v ∧ RuT r v w' ∧ Mod (fun _ => False) w w' := by
 cases hf : findN T f t with
 | none => rw [unL_no hf] at hu; cases hu
 | some a =>
  obtain ⟨h1, h2, h3⟩ := findN_inv hf
  subst h2; subst h3
  refine (rup_any hT hL hD hN hin hb p2 tq rd V (N + 1) w h a h1 (by have := (hD a h1).1; omega)).mono ?_
  rintro e w' ⟨r', ax, cx, g1, _, rfl, g2, g3⟩
  rw [hu] at g1; cases g1
  exact ⟨_, rfl, ⟨ax, cx, rfl, Rd.ofOwn g2⟩, g3⟩
theorem rus_none {n N : Nat} {L T : List Ar} {D : Ar → Nat} (hT : NetOk n T) (hL : NetOk n L) (hD : UnOk T D N) (hin : ∀ a ∈ T, a.m < 0 → a ∈ L) (hb : T.length ≤ 100000) {p2 tq rd : Nat} {V : List Nat} {w : World} (h : RL w p2 tq rd n T V) {f t : Int} (hu : unL T (N + 1) f t = none) :
  Calls Tryz.prog 34 #[.pointer (some ⟨p2, 0, none⟩), .int .i64 f, .int .i64 t] w fun e w' => e = .returned (.tuple #[.slice none 0 0, .bool false]) ∧ Mod (fun _ => False) w w' := by
 cases hf : findN T f t with
 | none => exact rup_none h hT hb f t hf
 | some a =>
  obtain ⟨h1, h2, h3⟩ := findN_inv hf
  subst h2; subst h3
  obtain ⟨r, g1, _⟩ := un_row hT hL hD hin (N + 1) a h1 (by have := (hD a h1).1; omega)
  rw [hu] at g1; cases g1
def RrP (T : List Ar) (k : Nat) (st : List Int) (w : World) (e : Ending) (w' : World) : Prop :=
 (∃ o ax cx, RowU T k st = some o ∧ e = .returned (.tuple #[.slice ax o.length cx, .bool true]) ∧ Rd w' 1 (.slice ax o.length cx) o.length (o.map (Value.int .i64)) ∧ Mod (fun _ => False) w w') ∨
 (RowU T k st = none ∧ e = .returned (.tuple #[.slice none 0 0, .bool false]) ∧ Mod (fun _ => False) w w')
theorem unL_len {n N : Nat} {L T : List Ar} {D : Ar → Nat} (hT : NetOk n T) (hL : NetOk n L) (hD : UnOk T D N) (hN : N ≤ 20) (hin : ∀ a ∈ T, a.m < 0 → a ∈ L) {f t : Int} {r : List Int} (hu : unL T (N + 1) f t = some r) : 2 ≤ r.length ∧ r.length ≤ 1048577 := by
 cases hf : findN T f t with
 | none => rw [unL_no hf] at hu; cases hu
 | some a =>
  obtain ⟨h1, h2, h3⟩ := findN_inv hf
  subst h2; subst h3
  obtain ⟨r', g1, g2, _, _, _, g6, _⟩ := un_row hT hL hD hin (N + 1) a h1 (by have := (hD a h1).1; omega)
  rw [hu] at g1; cases g1
  have h1 : 2 ^ D a ≤ 2 ^ 20 := Nat.pow_le_pow_right (by omega) (by have := (hD a h1).1; omega)
  have h2 : (2 : Nat) ^ 20 = 1048576 := by decide
  omega
def rr_r7_0_F (p2 : Nat) (j : Nat) (ln : Nat) (c : Nat) (xb : Nat) (xo : Nat) (yb : Nat) (yo : Nat) (a : Option Addr) (xf : Int) (xt : Int) (r : List Int) : List (Value → World → Prop) :=
 [IsV (.pointer (some ⟨p2, 0, none⟩)),
 IsV (.slice a ln c),
 IsV (.int .i64 (j : Int)),
 IsV (.pointer (some ⟨xb, xo, none⟩)),
 IsV (.int .i64 xf),
 IsV (.slice a ln c),
 IsV (.int .i64 (j : Int)),
 IsV (.int .i64 ((j : Int) + 1)),
 IsV (.pointer (some ⟨yb, yo, none⟩)),
 IsV (.int .i64 xt),
 (RuT r),
 (RuT r),
 (RuX r),
 IsV (.bool true),
 (RuX r),
 IsV (.bool true)]
def rr_r7_0_D : List (List Nat) := [[], [], [], [1, 2], [3], [], [], [6], [5, 7], [8], [0, 4, 9], [10], [11], [11], [12], [13]]

def rr_r7_1_F (p2 : Nat) (j : Nat) (ln : Nat) (c : Nat) (xb : Nat) (xo : Nat) (yb : Nat) (yo : Nat) (a : Option Addr) (xf : Int) (xt : Int) : List (Value → World → Prop) :=
 [IsV (.pointer (some ⟨p2, 0, none⟩)),
 IsV (.slice a ln c),
 IsV (.int .i64 (j : Int)),
 IsV (.pointer (some ⟨xb, xo, none⟩)),
 IsV (.int .i64 xf),
 IsV (.slice a ln c),
 IsV (.int .i64 (j : Int)),
 IsV (.int .i64 ((j : Int) + 1)),
 IsV (.pointer (some ⟨yb, yo, none⟩)),
 IsV (.int .i64 xt),
 IsV (.tuple #[.slice none 0 0, .bool false]),
 IsV (.tuple #[.slice none 0 0, .bool false]),
 IsV (.slice none 0 0),
 IsV (.bool false),
 IsV (.slice none 0 0),
 IsV (.bool false)]
def rr_r7_1_D : List (List Nat) := [[], [], [], [1, 2], [3], [], [], [6], [5, 7], [8], [0, 4, 9], [10], [11], [11], [12], [13]]

set_option maxHeartbeats 16000000 in
theorem rrow_any {w : World} {p2 tq rd n N : Nat} {L T : List Ar} {V : List Nat} {D : Ar → Nat} (h : RL w p2 tq rd n T V) (hT : NetOk n T) (hL : NetOk n L) (hD : UnOk T D N) (hN : N ≤ 20) (hin : ∀ a ∈ T, a.m < 0 → a ∈ L) (hb : T.length ≤ 100000) (a : Option Addr) (ln c : Nat) (st : List Int) (hst : st.length = ln) (hr : Rd w 1 (.slice a ln c) ln (st.map (Value.int .i64))) (hl : ln ≤ 1000) :
  Calls Tryz.prog 36 #[.pointer (some ⟨p2, 0, none⟩), .slice a ln c] w (RrP T (N + 1) st w) := by
 obtain ⟨iI, hiI, hzI, hsI, hbI⟩ := info_parts Nt.infoI
 have HSOME := Lib.hid (fun (W : World) (hrl : RL W p2 tq rd n T V) (f t : Int) (r : List Int) (hu : unL T (N + 1) f t = some r) => rus_some hT hL hD hN hin hb hrl hu)
 have HNONE := Lib.hid (fun (W : World) (hrl : RL W p2 tq rd n T V) (f t : Int) (hu : unL T (N + 1) f t = none) => rus_none hT hL hD hin hb hrl hu)
 have HLEN := Lib.hid (fun (f t : Int) (r : List Int) (hu : unL T (N + 1) f t = some r) => unL_len hT hL hD hN hin hu)
 have HRL := Lib.hid h
 clear h hT hL hD hin hb
 by_cases h0 : ln = 0
 ·
  have z0 : ((ln : Int) == 0) = true := by simp; omega
  have HN := Lib.hid (show st.length = 0 by omega)
  clear hr hst h0
  go_enter Tryz.func36, Tryz.ntmps36
  go_wp2_with fail
  go_ret2
  exact .inl ⟨[], none, 0, by unfold RowU; rw [if_pos HN.out], rfl, Rd.ofOwn (World.ownsRow_nil _ 0 3 1), Mod.refl _ _⟩
 ·
  have z0 : ((ln : Int) == 0) = false := by simp; omega
  obtain ⟨b0, o0, hp0, e0⟩ := rd1 hr 0 (by omega)
  have hix0 : ∀ wx, (Instr.indexAt 40 (.slice a ln c) (.int .i64 0)).run Tryz.prog wx = .ok (.pointer (some (elemA a 0 1))) wx := fun wx => run_indexS (P := Tryz.prog) wx 40 3 iI 1 Tryz.underlying40 hiI hsI a ln c 0 (by omega) (hr.some_ (by omega))
  rw [hp0] at hix0
  rw [getD_at (by omega)] at e0
  obtain ⟨m, hml⟩ : ∃ m, ln = m + 1 := ⟨ln - 1, by omega⟩
  obtain ⟨x0, hx0⟩ : ∃ y, st.getD 0 0 = y := ⟨_, rfl⟩
  rw [hx0] at e0
  have HX := Lib.hid (And.intro hx0 (And.intro hml hst))
  have HR := Lib.hid hr
  have hmm : m < ln := by omega
  clear hml hx0 hst hr hp0 h0
  go_enter Tryz.func36, Tryz.ntmps36
  go_wp2_with fail
  clear hix0 e0
  go_loopw [6, 7] (fun vs vi wr => ∃ j o ao co, j ≤ m ∧ vi = .int .i64 ((j : Nat) : Int) ∧ vs = .slice ao (List.length o) co ∧ rowAt T (N + 1) st j = some o ∧ o.length ≤ 1 + j * 1048577 ∧ wr.ownsRow w.heap.size 3 1 (.slice ao o.length co) o.length (o.map (Value.int .i64)) ∧ Mod (fun _ => False) w wr) (fun _ vi _ => m - (intOf vi).toNat)
  case atStart => exact ⟨0, [x0], _, _, Nat.zero_le _, rfl, rfl, by unfold rowAt; rw [HX.out.1], by simp, World.ownsRow_lit (base := w.heap.size) (e := 3) (size := 1) w #[.int .i64 x0] 1 (Nat.le_refl _) (by unfold maxLen; omega) rfl, Mod.alloc _ _ _⟩
  case round =>
   obtain ⟨j, o, ao, co, hj, rfl, rfl, hrow, hol, hown, hmr⟩ := hrel
   obtain ⟨wo, hwo⟩ : ∃ x : World, x = wr := ⟨_, rfl⟩
   subst hwo
   by_cases hlt : j < m
   case pos =>
    have z1 : decide ((j : Int) + 1 < (ln : Int)) = true := by have := HX.out.2.1; simp; omega
    have hj1 : j * 1048577 ≤ 1000 * 1048577 := Nat.mul_le_mul_right _ (by omega)
    have HS : Hid (Ev (Mod (fun _ => False) wo) wo) := Lib.hid (Ev.mod wo)
    have hrl := HRL.out.later hmr
    have hr2 := HR.out.keep hmr (fun _ _ e => e)
    obtain ⟨xb, xo, hp1, e1⟩ := rd1 hr2 j (by have := HX.out; omega)
    obtain ⟨yb, yo, hp2, e2⟩ := rd1 hr2 (j + 1) (by have := HX.out; omega)
    rw [getD_at (by have := HX.out; omega)] at e1 e2
    have hix1 := fun wx => run_indexS (P := Tryz.prog) wx 40 3 iI 1 Tryz.underlying40 hiI hsI a ln c j (by omega) (hr2.some_ (by omega))
    have hix2 : ∀ wx, (Instr.indexAt 40 (.slice a ln c) (.int .i64 ((j : Int) + 1))).run Tryz.prog wx = .ok (.pointer (some (elemA a (j + 1) 1))) wx := fun wx => run_indexS (P := Tryz.prog) wx 40 3 iI 1 Tryz.underlying40 hiI hsI a ln c (j + 1) (by have := HX.out; omega) (hr2.some_ (by omega))
    rw [hp1] at hix1
    rw [hp2] at hix2
    have HIx := Lib.hid hix1
    have HIy := Lib.hid hix2
    clear hix1 hix2 hp1 hp2
    obtain ⟨xf, hxf⟩ : ∃ y, st.getD j 0 = y := ⟨_, rfl⟩
    obtain ⟨xt, hxt⟩ : ∃ y, st.getD (j + 1) 0 = y := ⟨_, rfl⟩
    rw [hxf] at e1
    rw [hxt] at e2
    replace HS := Lib.hid ((Ev.cell e1).and HS.out)
    replace HS := Lib.hid ((Ev.cell e2).and HS.out)
    replace HS := Lib.hid ((Ev.rl hrl).and HS.out)
    have HXX := Lib.hid (And.intro hxf hxt)
    have HO := Lib.hid (And.intro hrow (And.intro hown hmr))
    clear hxf hxt e1 e2 hrl hr2 hrow hown hmr
    obtain ⟨no, hno⟩ : ∃ y, o.length = y := ⟨_, rfl⟩
    rw [hno] at hol ⊢
    have HNO := Lib.hid hno
    clear hno
    cases hu : unL T (N + 1) xf xt with
    | some r =>
     have hl2 := HLEN.out xf xt r hu
     have HU := Lib.hid hu
     clear hu
     go_upto_region 7 with fail
     have HSd := Lib.hid HS.out.drew
     refine wp_region_inv3 (act := ?actrr_r7_0) (Mod (fun _ => False)) (fun i => (rr_r7_0_F p2 j ln c xb xo yb yo a xf xt r).getD i (fun _ _ => True)) (fun i => rr_r7_0_D.getD i []) (by kernel_rfl) (by kernel_rfl) (by kernel_rfl) (by kernel_rfl) (fun _ => Mod.refl _ _)
      (fun _ _ _ h k => h.trans k (fun _ _ e => e) (fun _ _ e => e)) ?hactrr_r7_0 (stable_list ?_) ?_ ?_
     case hactrr_r7_0 => intro vs; simp only [putAll, Nat.zero_add, Nat.reduceAdd, Act.put, List.setIfInBounds_toArray, List.set_cons_succ, List.set_cons_zero]; exact rfl
     ·
      unfold rr_r7_0_F
      exact stable_cons (stable_val _) <| stable_cons (stable_val _) <| stable_cons (stable_val _) <| stable_cons (stable_val _) <| stable_cons (stable_val _) <| stable_cons (stable_val _) <| stable_cons (stable_val _) <| stable_cons (stable_val _) <| stable_cons (stable_val _) <| stable_cons (stable_val _) <| stable_cons (RuT.st _) <| stable_cons (RuT.st _) <| stable_cons (RuX.st _) <| stable_cons (stable_val _) <| stable_cons (RuX.st _) <| stable_cons (stable_val _) <| stable_nil
     ·
      refine opsOkA_cons ?_ ?_
      ·
       intro K vs W hR hD hK
       clear hD
       try dsimp only at hK ⊢
       simp only [Act.put, List.setIfInBounds_toArray, List.set_cons_succ, List.set_cons_zero] at hK
       go_wp2
       exact hK _ _ rfl (Mod.refl _ _)
      refine opsOkA_cons ?_ ?_
      ·
       intro K vs W hR hD hK
       clear hD
       try dsimp only at hK ⊢
       simp only [Act.put, List.setIfInBounds_toArray, List.set_cons_succ, List.set_cons_zero] at hK
       go_wp2
       exact hK _ _ rfl (Mod.refl _ _)
      refine opsOkA_cons ?_ ?_
      ·
       intro K vs W hR hD hK
       clear hD
       try dsimp only at hK ⊢
       simp only [Act.put, List.setIfInBounds_toArray, List.set_cons_succ, List.set_cons_zero] at hK
       go_wp2
       exact hK _ _ rfl (Mod.refl _ _)
      refine opsOkA_cons ?_ ?_
      ·
       intro K vs W hR hD hK
       have dq1 : vs 1 = .slice a ln c := hD 1 (by decide)
       have dq2 : vs 2 = .int .i64 (j : Int) := hD 2 (by decide)
       clear hD
       try dsimp only at hK ⊢
       simp only [Act.put, List.setIfInBounds_toArray, List.set_cons_succ, List.set_cons_zero] at hK
       generalize vs 1 = vq1 at hK dq1 ⊢
       subst vq1
       generalize vs 2 = vq2 at hK dq2 ⊢
       subst vq2
       have hix := HIx.out
       go_wp2_with fail
       exact hK _ _ rfl (Mod.refl _ _)
      refine opsOkA_cons ?_ ?_
      ·
       intro K vs W hR hD hK
       have dq3 : vs 3 = .pointer (some ⟨xb, xo, none⟩) := hD 3 (by decide)
       clear hD
       try dsimp only at hK ⊢
       simp only [Act.put, List.setIfInBounds_toArray, List.set_cons_succ, List.set_cons_zero] at hK
       generalize vs 3 = vq3 at hK dq3 ⊢
       subst vq3
       have c0 := (HSd.out.at (hR)).2.2.1
       go_wp2
       exact hK _ _ rfl (Mod.refl _ _)
      refine opsOkA_cons ?_ ?_
      ·
       intro K vs W hR hD hK
       clear hD
       try dsimp only at hK ⊢
       simp only [Act.put, List.setIfInBounds_toArray, List.set_cons_succ, List.set_cons_zero] at hK
       go_wp2
       exact hK _ _ rfl (Mod.refl _ _)
      refine opsOkA_cons ?_ ?_
      ·
       intro K vs W hR hD hK
       clear hD
       try dsimp only at hK ⊢
       simp only [Act.put, List.setIfInBounds_toArray, List.set_cons_succ, List.set_cons_zero] at hK
       go_wp2
       exact hK _ _ rfl (Mod.refl _ _)
      refine opsOkA_cons ?_ ?_
      ·
       intro K vs W hR hD hK
       have dq6 : vs 6 = .int .i64 (j : Int) := hD 6 (by decide)
       clear hD
       try dsimp only at hK ⊢
       simp only [Act.put, List.setIfInBounds_toArray, List.set_cons_succ, List.set_cons_zero] at hK
       generalize vs 6 = vq6 at hK dq6 ⊢
       subst vq6
       go_wp2
       exact hK _ _ rfl (Mod.refl _ _)
      refine opsOkA_cons ?_ ?_
      ·
       intro K vs W hR hD hK
       have dq5 : vs 5 = .slice a ln c := hD 5 (by decide)
       have dq7 : vs 7 = .int .i64 ((j : Int) + 1) := hD 7 (by decide)
       clear hD
       try dsimp only at hK ⊢
       simp only [Act.put, List.setIfInBounds_toArray, List.set_cons_succ, List.set_cons_zero] at hK
       generalize vs 5 = vq5 at hK dq5 ⊢
       subst vq5
       generalize vs 7 = vq7 at hK dq7 ⊢
       subst vq7
       have hix := HIy.out
       go_wp2_with fail
       exact hK _ _ rfl (Mod.refl _ _)
      refine opsOkA_cons ?_ ?_
      ·
       intro K vs W hR hD hK
       have dq8 : vs 8 = .pointer (some ⟨yb, yo, none⟩) := hD 8 (by decide)
       clear hD
       try dsimp only at hK ⊢
       simp only [Act.put, List.setIfInBounds_toArray, List.set_cons_succ, List.set_cons_zero] at hK
       generalize vs 8 = vq8 at hK dq8 ⊢
       subst vq8
       have c0 := (HSd.out.at (hR)).2.1
       go_wp2
       exact hK _ _ rfl (Mod.refl _ _)
      refine opsOkA_cons ?_ ?_
      ·
       intro K vs W hR hD hK
       have dq0 : vs 0 = .pointer (some ⟨p2, 0, none⟩) := hD 0 (by decide)
       have dq4 : vs 4 = .int .i64 xf := hD 4 (by decide)
       have dq9 : vs 9 = .int .i64 xt := hD 9 (by decide)
       clear hD
       try dsimp only at hK ⊢
       simp only [Act.put, List.setIfInBounds_toArray, List.set_cons_succ, List.set_cons_zero] at hK
       generalize vs 0 = vq0 at hK dq0 ⊢
       subst vq0
       generalize vs 4 = vq4 at hK dq4 ⊢
       subst vq4
       generalize vs 9 = vq9 at hK dq9 ⊢
       subst vq9
       go_wp2_with (go_at_call 34; refine (HSOME.out _ ((HSd.out.at (hR)).1) xf xt r HU.out).mono ?_; rintro e' w' ⟨v', rfl, hx', hm'⟩)
       exact hK _ _ hx' hm'
      refine opsOkA_cons ?_ ?_
      ·
       intro K vs W hR hD hK
       have dq10 : (RuT r) (vs 10) W := hD 10 (by decide)
       clear hD
       try dsimp only at hK ⊢
       simp only [Act.put, List.setIfInBounds_toArray, List.set_cons_succ, List.set_cons_zero] at hK
       generalize vs 10 = vq10 at hK dq10 ⊢
       obtain ⟨⟨ax10, cx10, rfl, hx10⟩⟩ := dq10
       go_wp2
       exact hK _ _ ⟨ax10, cx10, rfl, hx10⟩ (Mod.refl _ _)
      refine opsOkA_cons ?_ ?_
      ·
       intro K vs W hR hD hK
       have dq11 : (RuT r) (vs 11) W := hD 11 (by decide)
       clear hD
       try dsimp only at hK ⊢
       simp only [Act.put, List.setIfInBounds_toArray, List.set_cons_succ, List.set_cons_zero] at hK
       generalize vs 11 = vq11 at hK dq11 ⊢
       obtain ⟨⟨ax11, cx11, rfl, hx11⟩⟩ := dq11
       go_wp2
       exact hK _ _ ⟨ax11, cx11, rfl, hx11⟩ (Mod.refl _ _)
      refine opsOkA_cons ?_ ?_
      ·
       intro K vs W hR hD hK
       have dq11 : (RuT r) (vs 11) W := hD 11 (by decide)
       clear hD
       try dsimp only at hK ⊢
       simp only [Act.put, List.setIfInBounds_toArray, List.set_cons_succ, List.set_cons_zero] at hK
       generalize vs 11 = vq11 at hK dq11 ⊢
       obtain ⟨⟨ax11, cx11, rfl, hx11⟩⟩ := dq11
       go_wp2
       exact hK _ _ rfl (Mod.refl _ _)
      refine opsOkA_cons ?_ ?_
      ·
       intro K vs W hR hD hK
       have dq12 : (RuX r) (vs 12) W := hD 12 (by decide)
       clear hD
       try dsimp only at hK ⊢
       simp only [Act.put, List.setIfInBounds_toArray, List.set_cons_succ, List.set_cons_zero] at hK
       generalize vs 12 = vq12 at hK dq12 ⊢
       obtain ⟨⟨ax12, cx12, rfl, hx12⟩⟩ := dq12
       go_wp2
       exact hK _ _ ⟨ax12, cx12, rfl, hx12⟩ (Mod.refl _ _)
      refine opsOkA_cons ?_ ?_
      ·
       intro K vs W hR hD hK
       have dq13 : vs 13 = .bool true := hD 13 (by decide)
       clear hD
       try dsimp only at hK ⊢
       simp only [Act.put, List.setIfInBounds_toArray, List.set_cons_succ, List.set_cons_zero] at hK
       generalize vs 13 = vq13 at hK dq13 ⊢
       subst vq13
       go_wp2
       exact hK _ _ rfl (Mod.refl _ _)
      exact opsOkA_nil
     ·
      intro vs wq1 hR hF
      have dq14 : (RuX r) (vs 14) wq1 := hF 14 (by decide)
      have dq15 : vs 15 = .bool true := hF 15 (by decide)
      clear hF
      try dsimp only
      generalize vs 14 = vq14 at dq14 ⊢
      generalize vs 15 = vq15 at dq15 ⊢
      subst dq15
      replace HS := Lib.hid (HSd.out.step hR)
      clear HSd hR
      obtain ⟨⟨ax, cx, rfl, hx⟩⟩ := dq14
      have hrx := hx.drop (n := 1) (by omega)
      have HRR := Lib.hid hrx
      have HOO := Lib.hid (Own.keep HO.out.2.1 (HS.out.now).2.2.2 (fun _ _ e => e))
      rw [HNO.out] at HOO
      clear hx hrx
      have hdp : ∀ wx, (Instr.slice 40 (.slice ax r.length cx) (some (.int .i64 1)) none none).run Tryz.prog wx = .ok (.slice (dropA ax cx 1 1) (r.length - 1) (cx - 1)) wx := fun wx => run_dropS wx 40 3 iI 1 Tryz.underlying40 hiI hsI ax r.length cx 1 (by omega)
      go_upto_region 6 with (at_builtin; refine wpList_append_any rfl (.tmp 40) (.tmp 42) 40 rfl 3 iI (.int .i64 0) 1 8 Tryz.underlying40 hiI hzI hsI hbI rfl (by decide) _ no (o.map (Value.int .i64)) rfl (Own.base HOO.out (Nat.zero_le _)) _ (r.length - 1) ((r.map (Value.int .i64)).drop (1 * 1)) rfl HRR.out (by intro u hu; obtain ⟨_, _, rfl⟩ := List.mem_map.1 (List.mem_of_mem_drop hu); rfl) (by unfold maxLen; omega) (by omega) ?_; intro v' w5 hap; obtain ⟨a5, c5, rfl⟩ := hap.form; have HAP := Lib.hid hap; clear hap)
      clear hdp
      have hlen : (o ++ r.drop 1).length = no + (r.length - 1) := by rw [List.length_append, List.length_drop, HNO.out]
      have hW : Mod (fun _ => False) w wq1 := HO.out.2.2.of2 (HS.out.now).2.2.2
      have hv : ∀ k, (Value.slice ao no co).ownBlock = some k → w.heap.size ≤ k := fun k hk => (HOO.out.lt k hk).1
      have ho := Own.rebase HAP.out.own (HAP.out.low hW.size hv)
      rw [Nat.mul_one, ← List.map_drop, ← List.map_append] at ho
      have hmm2 := HAP.out.modOld hW hv
      have hrw := rowAt_step HO.out.1 (by rw [HXX.out.1, HXX.out.2]; exact HU.out)
      have HE := Lib.hid (And.intro ho (And.intro hmm2 (And.intro hrw hlen)))
      clear hlen hW hv ho hmm2 hrw
      go_wp2_with fail
      go_roundw
      case rel => exact ⟨j + 1, o ++ r.drop 1, a5, c5, hlt, rfl, by rw [HE.out.2.2.2], HE.out.2.2.1, by rw [HE.out.2.2.2]; omega, by rw [HE.out.2.2.2]; exact HE.out.1, HE.out.2.1⟩
      case measure => simp [intOf]; omega
    | none =>
     have HU := Lib.hid hu
     clear hu
     go_upto_region 7 with fail
     have HSd := Lib.hid HS.out.drew
     refine wp_region_inv3 (act := ?actrr_r7_1) (Mod (fun _ => False)) (fun i => (rr_r7_1_F p2 j ln c xb xo yb yo a xf xt).getD i (fun _ _ => True)) (fun i => rr_r7_1_D.getD i []) (by kernel_rfl) (by kernel_rfl) (by kernel_rfl) (by kernel_rfl) (fun _ => Mod.refl _ _)
      (fun _ _ _ h k => h.trans k (fun _ _ e => e) (fun _ _ e => e)) ?hactrr_r7_1 (stable_list ?_) ?_ ?_
     case hactrr_r7_1 => intro vs; simp only [putAll, Nat.zero_add, Nat.reduceAdd, Act.put, List.setIfInBounds_toArray, List.set_cons_succ, List.set_cons_zero]; exact rfl
     ·
      unfold rr_r7_1_F
      exact stable_cons (stable_val _) <| stable_cons (stable_val _) <| stable_cons (stable_val _) <| stable_cons (stable_val _) <| stable_cons (stable_val _) <| stable_cons (stable_val _) <| stable_cons (stable_val _) <| stable_cons (stable_val _) <| stable_cons (stable_val _) <| stable_cons (stable_val _) <| stable_cons (stable_val _) <| stable_cons (stable_val _) <| stable_cons (stable_val _) <| stable_cons (stable_val _) <| stable_cons (stable_val _) <| stable_cons (stable_val _) <| stable_nil
     ·
      refine opsOkA_cons ?_ ?_
      ·
       intro K vs W hR hD hK
       clear hD
       try dsimp only at hK ⊢
       simp only [Act.put, List.setIfInBounds_toArray, List.set_cons_succ, List.set_cons_zero] at hK
       go_wp2
       exact hK _ _ rfl (Mod.refl _ _)
      refine opsOkA_cons ?_ ?_
      ·
       intro K vs W hR hD hK
       clear hD
       try dsimp only at hK ⊢
       simp only [Act.put, List.setIfInBounds_toArray, List.set_cons_succ, List.set_cons_zero] at hK
       go_wp2
       exact hK _ _ rfl (Mod.refl _ _)
      refine opsOkA_cons ?_ ?_
      ·
       intro K vs W hR hD hK
       clear hD
       try dsimp only at hK ⊢
       simp only [Act.put, List.setIfInBounds_toArray, List.set_cons_succ, List.set_cons_zero] at hK
       go_wp2
       exact hK _ _ rfl (Mod.refl _ _)
      refine opsOkA_cons ?_ ?_
      ·
       intro K vs W hR hD hK
       have dq1 : vs 1 = .slice a ln c := hD 1 (by decide)
       have dq2 : vs 2 = .int .i64 (j : Int) := hD 2 (by decide)
       clear hD
       try dsimp only at hK ⊢
       simp only [Act.put, List.setIfInBounds_toArray, List.set_cons_succ, List.set_cons_zero] at hK
       generalize vs 1 = vq1 at hK dq1 ⊢
       subst vq1
       generalize vs 2 = vq2 at hK dq2 ⊢
       subst vq2
       have hix := HIx.out
       go_wp2_with fail
       exact hK _ _ rfl (Mod.refl _ _)
      refine opsOkA_cons ?_ ?_
      ·
       intro K vs W hR hD hK
       have dq3 : vs 3 = .pointer (some ⟨xb, xo, none⟩) := hD 3 (by decide)
       clear hD
       try dsimp only at hK ⊢
       simp only [Act.put, List.setIfInBounds_toArray, List.set_cons_succ, List.set_cons_zero] at hK
       generalize vs 3 = vq3 at hK dq3 ⊢
       subst vq3
       have c0 := (HSd.out.at (hR)).2.2.1
       go_wp2
       exact hK _ _ rfl (Mod.refl _ _)
      refine opsOkA_cons ?_ ?_
      ·
       intro K vs W hR hD hK
       clear hD
       try dsimp only at hK ⊢
       simp only [Act.put, List.setIfInBounds_toArray, List.set_cons_succ, List.set_cons_zero] at hK
       go_wp2
       exact hK _ _ rfl (Mod.refl _ _)
      refine opsOkA_cons ?_ ?_
      ·
       intro K vs W hR hD hK
       clear hD
       try dsimp only at hK ⊢
       simp only [Act.put, List.setIfInBounds_toArray, List.set_cons_succ, List.set_cons_zero] at hK
       go_wp2
       exact hK _ _ rfl (Mod.refl _ _)
      refine opsOkA_cons ?_ ?_
      ·
       intro K vs W hR hD hK
       have dq6 : vs 6 = .int .i64 (j : Int) := hD 6 (by decide)
       clear hD
       try dsimp only at hK ⊢
       simp only [Act.put, List.setIfInBounds_toArray, List.set_cons_succ, List.set_cons_zero] at hK
       generalize vs 6 = vq6 at hK dq6 ⊢
       subst vq6
       go_wp2
       exact hK _ _ rfl (Mod.refl _ _)
      refine opsOkA_cons ?_ ?_
      ·
       intro K vs W hR hD hK
       have dq5 : vs 5 = .slice a ln c := hD 5 (by decide)
       have dq7 : vs 7 = .int .i64 ((j : Int) + 1) := hD 7 (by decide)
       clear hD
       try dsimp only at hK ⊢
       simp only [Act.put, List.setIfInBounds_toArray, List.set_cons_succ, List.set_cons_zero] at hK
       generalize vs 5 = vq5 at hK dq5 ⊢
       subst vq5
       generalize vs 7 = vq7 at hK dq7 ⊢
       subst vq7
       have hix := HIy.out
       go_wp2_with fail
       exact hK _ _ rfl (Mod.refl _ _)
      refine opsOkA_cons ?_ ?_
      ·
       intro K vs W hR hD hK
       have dq8 : vs 8 = .pointer (some ⟨yb, yo, none⟩) := hD 8 (by decide)
       clear hD
       try dsimp only at hK ⊢
       simp only [Act.put, List.setIfInBounds_toArray, List.set_cons_succ, List.set_cons_zero] at hK
       generalize vs 8 = vq8 at hK dq8 ⊢
       subst vq8
       have c0 := (HSd.out.at (hR)).2.1
       go_wp2
       exact hK _ _ rfl (Mod.refl _ _)
      refine opsOkA_cons ?_ ?_
      ·
       intro K vs W hR hD hK
       have dq0 : vs 0 = .pointer (some ⟨p2, 0, none⟩) := hD 0 (by decide)
       have dq4 : vs 4 = .int .i64 xf := hD 4 (by decide)
       have dq9 : vs 9 = .int .i64 xt := hD 9 (by decide)
       clear hD
       try dsimp only at hK ⊢
       simp only [Act.put, List.setIfInBounds_toArray, List.set_cons_succ, List.set_cons_zero] at hK
       generalize vs 0 = vq0 at hK dq0 ⊢
       subst vq0
       generalize vs 4 = vq4 at hK dq4 ⊢
       subst vq4
       generalize vs 9 = vq9 at hK dq9 ⊢
       subst vq9
       go_wp2_with (go_at_call 34; refine (HNONE.out _ ((HSd.out.at (hR)).1) xf xt HU.out).mono ?_; rintro e' w' ⟨rfl, hm'⟩)
       exact hK _ _ rfl hm'
      refine opsOkA_cons ?_ ?_
      ·
       intro K vs W hR hD hK
       have dq10 : vs 10 = .tuple #[.slice none 0 0, .bool false] := hD 10 (by decide)
       clear hD
       try dsimp only at hK ⊢
       simp only [Act.put, List.setIfInBounds_toArray, List.set_cons_succ, List.set_cons_zero] at hK
       generalize vs 10 = vq10 at hK dq10 ⊢
       subst vq10
       go_wp2
       exact hK _ _ rfl (Mod.refl _ _)
      refine opsOkA_cons ?_ ?_
      ·
       intro K vs W hR hD hK
       have dq11 : vs 11 = .tuple #[.slice none 0 0, .bool false] := hD 11 (by decide)
       clear hD
       try dsimp only at hK ⊢
       simp only [Act.put, List.setIfInBounds_toArray, List.set_cons_succ, List.set_cons_zero] at hK
       generalize vs 11 = vq11 at hK dq11 ⊢
       subst vq11
       go_wp2
       exact hK _ _ rfl (Mod.refl _ _)
      refine opsOkA_cons ?_ ?_
      ·
       intro K vs W hR hD hK
       have dq11 : vs 11 = .tuple #[.slice none 0 0, .bool false] := hD 11 (by decide)
       clear hD
       try dsimp only at hK ⊢
       simp only [Act.put, List.setIfInBounds_toArray, List.set_cons_succ, List.set_cons_zero] at hK
       generalize vs 11 = vq11 at hK dq11 ⊢
       subst vq11
       go_wp2
       exact hK _ _ rfl (Mod.refl _ _)
      refine opsOkA_cons ?_ ?_
      ·
       intro K vs W hR hD hK
       have dq12 : vs 12 = .slice none 0 0 := hD 12 (by decide)
       clear hD
       try dsimp only at hK ⊢
       simp only [Act.put, List.setIfInBounds_toArray, List.set_cons_succ, List.set_cons_zero] at hK
       generalize vs 12 = vq12 at hK dq12 ⊢
       subst vq12
       go_wp2
       exact hK _ _ rfl (Mod.refl _ _)
      refine opsOkA_cons ?_ ?_
      ·
       intro K vs W hR hD hK
       have dq13 : vs 13 = .bool false := hD 13 (by decide)
       clear hD
       try dsimp only at hK ⊢
       simp only [Act.put, List.setIfInBounds_toArray, List.set_cons_succ, List.set_cons_zero] at hK
       generalize vs 13 = vq13 at hK dq13 ⊢
       subst vq13
       go_wp2
       exact hK _ _ rfl (Mod.refl _ _)
      exact opsOkA_nil
     ·
      intro vs wq2 hR hF
      have dq14 : vs 14 = .slice none 0 0 := hF 14 (by decide)
      have dq15 : vs 15 = .bool false := hF 15 (by decide)
      clear hF
      try dsimp only
      generalize vs 14 = vq14 at dq14 ⊢
      subst dq14
      generalize vs 15 = vq15 at dq15 ⊢
      subst dq15
      replace HS := Lib.hid (HSd.out.step hR)
      clear HSd hR
      go_wp2_with fail
      go_ret2
      refine .inr ⟨?_, rfl, HO.out.2.2.of2 (HS.out.now).2.2.2⟩
      unfold RowU
      rw [if_neg (by have := HX.out; omega)]
      have h1 := rowAt_stop (T := T) (k := N + 1) (st := st) (j := j) (by rw [HXX.out.1, HXX.out.2]; exact HU.out) (st.length - 1 - (j + 1))
      rw [show j + 1 + (st.length - 1 - (j + 1)) = st.length - 1 by have := HX.out; omega] at h1
      exact h1
   case neg =>
    have hjm : j = m := by omega
    have z1 : decide ((j : Int) + 1 < (ln : Int)) = false := by have := HX.out.2.1; simp; omega
    have HO := Lib.hid (And.intro hrow (And.intro hown (And.intro hmr hjm)))
    clear hrow hown hmr hol hjm
    go_wp2_with fail
    go_ret2
    refine .inl ⟨o, ao, co, ?_, rfl, Rd.ofOwn HO.out.2.1, HO.out.2.2.1⟩
    unfold RowU
    rw [if_neg (by have := HX.out; omega), show st.length - 1 = j by have := HX.out; have := HO.out.2.2.2; omega]
    exact HO.out.1
end Go.Proofs.YtjjedebjbgpimaaGreat
