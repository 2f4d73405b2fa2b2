/- UnpackArcs by contract. -/
import Derived.Test.YtjjedebjbgpimaaGreatUTells17
import Derived.Test.YtjjedebjbgpimaaGreatKReg
import Derived.Deep.DeepCutAuto
import Derived.Deep.CutBlock
namespace Go.Proofs.YtjjedebjbgpimaaGreat
open Go.RowKit Mile
set_option maxRecDepth 100000
def chS (L : List Ar) (r : List Int) : Nat → Int
 | 0 => 0
 | k + 1 => chS L r k + (match findN L (r.getD k 0) (r.getD (k + 1) 0) with | some a => a.w | none => 0)
theorem chS_cons (L : List Ar) (x y : Int) (r : List Int) (k : Nat) : chS L (x :: y :: r) (k + 1) = (match findN L x y with | some a => a.w | none => 0) + chS L (y :: r) k := by
 induction k with
 | zero => unfold chS; simp [chS]
 | succ k ih =>
  have e1 : chS L (x :: y :: r) (k + 1 + 1) = chS L (x :: y :: r) (k + 1) + (match findN L ((x :: y :: r).getD (k + 1) 0) ((x :: y :: r).getD (k + 1 + 1) 0) with | some a => a.w | none => 0) := rfl
  have e2 : chS L (y :: r) (k + 1) = chS L (y :: r) k + (match findN L ((y :: r).getD k 0) ((y :: r).getD (k + 1) 0) with | some a => a.w | none => 0) := rfl
  rw [e1, e2, ih, List.getD_cons_succ, List.getD_cons_succ, Int.add_assoc]
theorem chA_at {L : List Ar} {r : List Int} {w : Int} (h : ChA L r w) : (∀ k, k + 1 < r.length → ∃ a, findN L (r.getD k 0) (r.getD (k + 1) 0) = some a) ∧ chS L r (r.length - 1) = w := by
 induction h with
 | one x => exact ⟨fun k hk => by simp at hk, rfl⟩
 | cons x y r w a hf hc ih =>
  refine ⟨fun k hk => ?_, ?_⟩
  ·
   cases k with
   | zero => exact ⟨a, by simpa using hf⟩
   | succ k =>
    obtain ⟨b, hb⟩ := ih.1 k (by simp only [List.length_cons] at hk ⊢; omega)
    exact ⟨b, by rw [List.getD_cons_succ, List.getD_cons_succ]; exact hb⟩
  ·
   have e : (x :: y :: r).length - 1 = ((y :: r).length - 1) + 1 := by simp
   rw [e, chS_cons, ih.2, hf]
theorem chS_step {L : List Ar} {r : List Int} {k : Nat} {a : Ar} (h : findN L (r.getD k 0) (r.getD (k + 1) 0) = some a) : chS L r (k + 1) = chS L r k + a.w := by show chS L r k + (match findN L (r.getD k 0) (r.getD (k + 1) 0) with | some a => a.w | none => 0) = _; rw [h]
theorem chS_top {L : List Ar} {r : List Int} (hL : ∀ a ∈ L, 0 ≤ a.w ∧ a.w ≤ 20) (k : Nat) : 0 ≤ chS L r k ∧ chS L r k ≤ 20 * k := by
 induction k with
 | zero => exact ⟨Int.le_refl _, Int.le_refl _⟩
 | succ k ih =>
  have e : chS L r (k + 1) = chS L r k + (match findN L (r.getD k 0) (r.getD (k + 1) 0) with | some a => a.w | none => 0) := rfl
  rw [e]
  cases h : findN L (r.getD k 0) (r.getD (k + 1) 0) with
  | none => simp only; omega
  | some a => have := hL a (findN_inv h).1; simp only; omega
theorem head_getD {r : List Int} {x : Int} (h : r.head? = some x) : r.getD 0 0 = x := by
 cases r with
 | nil => cases h
 | cons y r => simp at h; simp [h]
theorem last_getD {r : List Int} {x : Int} (h : r.getLast? = some x) : r.getD (r.length - 1) 0 = x := by
 rw [List.getLast?_eq_getElem?] at h
 rw [List.getD, h]; rfl
structure UdT (r : List Int) (v : Value) (W : World) : Prop where
 h : ∃ a c, v = .tuple #[.slice a r.length c, .int .i64 0] ∧ Rd W 1 (.slice a r.length c) r.length (r.map (Value.int .i64))
theorem UdT.st (r : List Int) : ∀ v w w', UdT r v w → Mod (fun _ => False) w w' → UdT r v w' := fun _ _ _ ⟨a, c, h, o⟩ m => ⟨a, c, h, o.keep m (fun _ _ e => e)⟩
theorem uarc_some {w : World} {p n N : Nat} {L T : List Ar} {V : List Nat} {D : Ar → Nat} {F : Nat → Prop} (h : LO w p n T V F) (hn : n ≤ 512) (hT : NetOk n T) (hL : NetOk n L) (hD : UnOk T D N) (hN : N ≤ 20) (hin : ∀ a ∈ T, a.m < 0 → a ∈ L) {f t : Int} (hwf : (Lit.int .i64 f).wf = true ∧ (Lit.int .i64 t).wf = true) {r : List Int} (hu : unL T (N + 1) f t = some r) :
  Calls Tryz.prog 33 #[.pointer (some ⟨p, 0, none⟩), .int .i64 f, .int .i64 t] w fun e w' => ∃ v, e = .returned v ∧ UdT r v w' ∧ Mod (fun _ => False) w w' := by
 refine (uarc_any h hn hT hL hD hN hin f t hwf).mono ?_
 rintro e w' (⟨r', ax, cx, g1, _, _, rfl, g2, g3⟩ | ⟨g1, _⟩)
 ·
  rw [hu] at g1; cases g1
  exact ⟨_, rfl, ⟨ax, cx, rfl, Rd.ofOwn g2⟩, g3⟩
 ·
  rw [hu] at g1; cases g1
theorem Ev.rn17 {w : World} {q n : Nat} {L : List Ar} (h : RN w q n L) : Ev (fun W => RN W q n L) w := fun _ m => h.later m
def ua_r10_0_F (p : Nat) (k : Nat) (lT : Nat) (aa : Option Addr) (ca : Nat) (yf : Int) (yt : Int) (r : List Int) (eb : Nat) (eo : Nat) : List (Value → World → Prop) :=
 [IsV (.pointer (some ⟨p, 0, none⟩)),
 IsV (.slice aa lT ca),
 IsV (.int .i64 (k : Int)),
 IsV (.pointer (some ⟨eb, eo, none⟩)),
 IsV (.pointer (some ⟨eb, eo, none⟩)),
 IsV (.int .i64 yf),
 IsV (.slice aa lT ca),
 IsV (.int .i64 (k : Int)),
 IsV (.pointer (some ⟨eb, eo, none⟩)),
 IsV (.pointer (some ⟨eb, eo + 1, none⟩)),
 IsV (.int .i64 yt),
 (UdT r),
 (UdT r),
 (RuX r),
 IsV (.int .i64 0),
 (RuX r),
 IsV (.int .i64 0)]
def ua_r10_0_D : List (List Nat) := [[], [], [], [1, 2], [3], [4], [], [], [6, 7], [8], [9], [0, 5, 10], [11], [12], [12], [13], [14]]

def ua_r11_1_F (k : Nat) (lT : Nat) (aa : Option Addr) (ax : Option Addr) (ca : Nat) (nr : Nat) (cx : Nat) (yf : Int) (yt : Int) (eb : Nat) (eo : Nat) (ub : Nat) (uo : Nat) (yb : Nat) (yo : Nat) : List (Value → World → Prop) :=
 [IsV (.int .i64 0),
 IsV (.bool false),
 IsV (.bool false),
 IsV (.slice ax (nr + 1) cx),
 IsV (.int .i64 ((nr : Int) + 1)),
 IsV (.bool false),
 IsV (.bool false),
 IsV (.bool false),
 IsV (.slice ax (nr + 1) cx),
 IsV (.pointer (some ⟨ub, uo, none⟩)),
 IsV (.int .i64 yf),
 IsV (.slice aa lT ca),
 IsV (.int .i64 (k : Int)),
 IsV (.pointer (some ⟨eb, eo, none⟩)),
 IsV (.pointer (some ⟨eb, eo, none⟩)),
 IsV (.int .i64 yf),
 IsV (.bool false),
 IsV (.bool false),
 IsV (.bool false),
 IsV (.slice ax (nr + 1) cx),
 IsV (.slice ax (nr + 1) cx),
 IsV (.int .i64 ((nr : Int) + 1)),
 IsV (.int .i64 (nr : Int)),
 IsV (.pointer (some ⟨yb, yo, none⟩)),
 IsV (.int .i64 yt),
 IsV (.slice aa lT ca),
 IsV (.int .i64 (k : Int)),
 IsV (.pointer (some ⟨eb, eo, none⟩)),
 IsV (.pointer (some ⟨eb, eo + 1, none⟩)),
 IsV (.int .i64 yt),
 IsV (.bool false),
 IsV (.bool false)]
def ua_r11_1_D : List (List Nat) := [[], [0], [1], [2], [2, 3], [2, 4], [2, 5], [6], [7], [7, 8], [7, 9], [7], [7], [7, 11, 12], [7, 13], [7, 14], [7, 10, 15], [7, 16], [17], [18], [18], [18, 20], [18, 21], [18, 19, 22], [18, 23], [18], [18], [18, 25, 26], [18, 27], [18, 28], [18, 24, 29], [18, 30]]

def ua_r17_2_F (m : Nat) (ax : Option Addr) (nr : Nat) (cx : Nat) (k2 : Nat) (ub : Nat) (uo : Nat) (yb : Nat) (yo : Nat) (xf : Int) (xt : Int) (fp : Nat) : List (Value → World → Prop) :=
 [IsV (.pointer (some ⟨m, 0, none⟩)),
 IsV (.slice ax (nr + 1) cx),
 IsV (.int .i64 (k2 : Int)),
 IsV (.pointer (some ⟨ub, uo, none⟩)),
 IsV (.int .i64 xf),
 IsV (.slice ax (nr + 1) cx),
 IsV (.int .i64 (k2 : Int)),
 IsV (.int .i64 ((k2 : Int) + 1)),
 IsV (.pointer (some ⟨yb, yo, none⟩)),
 IsV (.int .i64 xt),
 IsV (.tuple #[.int .i64 (fp : Int), .bool true]),
 IsV (.tuple #[.int .i64 (fp : Int), .bool true]),
 IsV (.int .i64 (fp : Int)),
 IsV (.bool true),
 IsV (.int .i64 (fp : Int)),
 IsV (.bool true)]
def ua_r17_2_D : List (List Nat) := [[], [], [], [1, 2], [3], [], [], [6], [5, 7], [8], [0, 4, 9], [10], [11], [11], [12], [13]]

set_option maxHeartbeats 64000000 in
theorem uarcs_all (w : World) (n : Nat) (h1n : 1 ≤ n) (h20 : n ≤ 20) (a : Option Addr) (ln c : Nat) (T0 : List T3) (hT : T0.length = ln) (hr : Rd w 3 (.slice a ln c) ln (T0.flatMap c3T)) (hln : ln ≤ 80) :
  Calls Tryz.prog 7 #[.int .i64 (n : Int), .slice a ln c] w fun e w' => e = .returned (.bool true) ∧ Mod (fun _ => False) w w' := by
 have y0 : decide ((n : Int) < 1) = false := by simp; omega
 have y1 : decide ((20 : Int) < (n : Int)) = false := by simp; omega
 have y2 : decide ((80 : Int) < (ln : Int)) = false := by simp; omega
 have y2n : decide (80 < ln) = false := by simp; omega
 obtain ⟨iA, hiA, hzA, hsA, hbA⟩ := info_parts Nt.infoA
 obtain ⟨iI, hiI, hzI, hsI, hbI⟩ := info_parts Nt.infoI
 obtain ⟨P, hP⟩ := pick17 n (by omega)
 have HBU := Lib.hid (built17_any w n (by omega) a ln c T0 hT hr (by omega) P hP)
 have h17 := lv17 (P := P) h20 T0
 have hw20 : ∀ x ∈ net17 n T0, 0 ≤ x.w ∧ x.w ≤ 20 := fun x hx => by have := net17_in n T0 x hx; omega
 obtain ⟨L, hL⟩ : ∃ L, net17 n T0 = L := ⟨_, rfl⟩
 unfold Bu17P at HBU
 rw [hL] at HBU h17 hw20
 obtain ⟨T, hTT⟩ : ∃ y, (bAt n P L n).T = y := ⟨_, rfl⟩
 obtain ⟨V, hVV⟩ : ∃ y, (bAt n P L n).V = y := ⟨_, rfl⟩
 rw [hTT, hVV] at HBU h17
 have H17 := Lib.hid h17
 have hlL4 : L.length ≤ 400 := by have := net_len h17.hL; have : n * n ≤ 20 * 20 := Nat.mul_le_mul h20 h20; omega
 have hlT4 := h17.few
 obtain ⟨lL, hlL⟩ : ∃ y, L.length = y := ⟨_, rfl⟩
 obtain ⟨lT, hlT⟩ : ∃ y, T.length = y := ⟨_, rfl⟩
 rw [hlL] at hlL4
 rw [hlT] at hlT4
 have HLL := Lib.hid hlL
 have HLT := Lib.hid hlT
 have HW20 := Lib.hid hw20
 clear hT hr hP hL hTT hVV h17 hw20 hlL hlT
 go_enter Tryz.func7, Tryz.ntmps7
 go_wp2_with fail
 refine HBU.out.mono ?_
 rintro e w1 ⟨p, F, p2, tq, rd, m, rfl, hlo, _, hrn, hm⟩
 obtain ⟨ra, rc, rb, rr, _⟩ := id hrn
 obtain ⟨tl, rdb, mb, FT, hlv, _⟩ := id hlo
 rw [HLL.out] at rb rr
 have HM1 := Lib.hid hm
 clear HBU hm y0 y1 y2 y2n
 have HS : Hid (Ev (Mod (fun _ => False) w1) w1) := Lib.hid (Ev.mod w1)
 replace HS := Lib.hid ((Ev.lo hlo).and HS.out)
 replace HS := Lib.hid ((Ev.rn17 hrn).and HS.out)
 replace HS := Lib.hid ((Ev.blk rb).and HS.out)
 replace HS := Lib.hid ((Ev.rd rr).and HS.out)
 replace HS := Lib.hid ((Ev.blk hlv.blk).and HS.out)
 replace HS := Lib.hid ((Ev.nt hlv.net).and HS.out)
 clear hlo hrn rb rr hlv
 have hbm := (HS.out.now).2.2.2.1
 have qm_0 := hbm.cell 0 rfl
 have qm_1 := hbm.cell 1 rfl
 have lm := hbm.lt
 clear hbm
 have hbp := (HS.out.now).2.1
 have qp_0 := hbp.cell 0 rfl
 have qp_1 := hbp.cell 1 rfl
 have qp_2 := hbp.cell 2 rfl
 have lp := hbp.lt
 clear hbp
 have HAL := Lib.hid (nt_all ((HS.out.now).1))
 unfold NewR at HAL
 rw [HLT.out] at HAL
 go_wp2_with fail
 go_wp2_with fail
 refine (HAL.out).mono ?_
 rintro e wq1 ⟨aa, ca, rfl, hoa, hmm⟩
 replace HS := Lib.hid (HS.out.step hmm)
 clear hmm
 replace HS := Lib.hid ((Ev.rd (Rd.ofOwn hoa)).and HS.out)
 clear hoa HAL
 clear qm_0 qm_1 lm qp_0 qp_1 qp_2 lp
 have hbm := (HS.out.now).2.2.2.2.1
 have qm_0 := hbm.cell 0 rfl
 have qm_1 := hbm.cell 1 rfl
 have lm := hbm.lt
 clear hbm
 have hbp := (HS.out.now).2.2.1
 have qp_0 := hbp.cell 0 rfl
 have qp_1 := hbp.cell 1 rfl
 have qp_2 := hbp.cell 2 rfl
 have lp := hbp.lt
 clear hbp
 go_wp2_with fail
 replace HS := Lib.hid ((Ev.mod wq1).and HS.out)
 go_loopw [9] (fun i wr => ∃ k : Nat, k ≤ lT ∧ i = .int .i64 (k : Int) ∧ Mod (fun _ => False) wq1 wr) (fun i _ => lT - (intOf i).toNat)
 case atStart => exact ⟨0, by omega, rfl, Mod.refl _ _⟩
 case round =>
  obtain ⟨k, hk, rfl, hmr⟩ := hrel
  obtain ⟨wo, hwo⟩ : ∃ x : World, x = wr := ⟨_, rfl⟩
  subst hwo
  replace HS := Lib.hid (HS.out.step hmr)
  clear hmr
  clear qm_0 qm_1 lm qp_0 qp_1 qp_2 lp
  have hbm := (HS.out.now).2.2.2.2.2.1
  have qm_0 := hbm.cell 0 rfl
  have qm_1 := hbm.cell 1 rfl
  have lm := hbm.lt
  clear hbm
  have hbp := (HS.out.now).2.2.2.1
  have qp_0 := hbp.cell 0 rfl
  have qp_1 := hbp.cell 1 rfl
  have qp_2 := hbp.cell 2 rfl
  have lp := hbp.lt
  clear hbp
  by_cases hlt : k < lT
  case pos =>
   have z0 : decide ((k : Int) < (lT : Int)) = true := by simp; omega
   have hkl : k < T.length := by rw [HLT.out]; exact hlt
   have hmem := List.getElem_mem hkl
   obtain ⟨y, hy⟩ : ∃ y, T[k] = y := ⟨_, rfl⟩
   rw [hy] at hmem
   obtain ⟨r, u1, u2, u3, u4, u5, u6, _⟩ := un_row H17.out.hT H17.out.hL H17.out.hD H17.out.hin (n + 1) y hmem (by have := (H17.out.hD y hmem).1; omega)
   have hwf := may_wf (H17.out.hT.may y hmem) (show n ≤ 512 by omega)
   have hl2 := unL_len H17.out.hT H17.out.hL H17.out.hD h20 H17.out.hin u1
   have hst := chS_top (r := r) HW20.out
   obtain ⟨hca, hcw⟩ := chA_at u5
   have hh := head_getD u3
   have hlst := last_getD u4
   obtain ⟨yf, yt, yw, ym⟩ := y
   simp only at u1 u3 u4 hcw hwf hh hlst
   have HX := Lib.hid hy
   clear hy hmem u2 u3 u4 u5 u6
   obtain ⟨nr, hnr⟩ : ∃ q, r.length = q + 1 := ⟨r.length - 1, by omega⟩
   rw [show r.length - 1 = nr by omega] at hcw hlst
   rw [hnr] at hca hl2
   have HC := Lib.hid (And.intro hca (And.intro hcw hst))
   have HU := Lib.hid (And.intro u1 hwf)
   have HNR := Lib.hid hnr
   have HHL := Lib.hid (And.intro hh hlst)
   clear hca hcw hst u1 hwf hnr hh hlst
   obtain ⟨eb, eo, hpe, e0, e1, e2, e3⟩ := rd4 ((HS.out.now).2.1) k hkl
   have hix := fun wx => run_indexS (P := Tryz.prog) wx 34 50 iA 4 Tryz.underlying34 hiA hsA aa lT ca k hlt (((HS.out.now).2.1).some_ (by omega))
   rw [hpe] at hix
   have HIe := Lib.hid hix
   clear hix hpe
   rw [HX.out] at e0 e1 e2 e3
   simp only at e0 e1 e2 e3
   replace HS := Lib.hid ((Ev.cell e0).and HS.out)
   replace HS := Lib.hid ((Ev.cell e1).and HS.out)
   replace HS := Lib.hid ((Ev.cell e2).and HS.out)
   replace HS := Lib.hid ((Ev.cell e3).and HS.out)
   clear e0 e1 e2 e3
   go_upto_region 10 with fail
   clear qm_0 qm_1 lm qp_0 qp_1 qp_2 lp
   have HSd := Lib.hid HS.out.drew
   refine wp_region_inv3 (act := ?actua_r10_0) (Mod (fun _ => False)) (fun i => (ua_r10_0_F p k lT aa ca yf yt r eb eo).getD i (fun _ _ => True)) (fun i => ua_r10_0_D.getD i []) (by kernel_rfl) (by kernel_rfl) (by kernel_rfl) (by kernel_rfl) (fun _ => Mod.refl _ _)
    (fun _ _ _ h k => h.trans k (fun _ _ e => e) (fun _ _ e => e)) ?hactua_r10_0 (stable_list ?_) ?_ ?_
   case hactua_r10_0 => intro vs; simp only [putAll, Nat.zero_add, Nat.reduceAdd, Act.put, List.setIfInBounds_toArray, List.set_cons_succ, List.set_cons_zero]; exact rfl
   ·
    unfold ua_r10_0_F
    exact stable_cons (stable_val _) <| stable_cons (stable_val _) <| stable_cons (stable_val _) <| stable_cons (stable_val _) <| stable_cons (stable_val _) <| stable_cons (stable_val _) <| stable_cons (stable_val _) <| stable_cons (stable_val _) <| stable_cons (stable_val _) <| stable_cons (stable_val _) <| stable_cons (stable_val _) <| stable_cons (UdT.st _) <| stable_cons (UdT.st _) <| stable_cons (RuX.st _) <| stable_cons (stable_val _) <| stable_cons (RuX.st _) <| stable_cons (stable_val _) <| stable_nil
   ·
    refine opsOkA_cons ?_ ?_
    ·
     intro K vs W hR hD hK
     clear hD
     try dsimp only at hK ⊢
     simp only [Act.put, List.setIfInBounds_toArray, List.set_cons_succ, List.set_cons_zero] at hK
     go_wp2
     exact hK _ _ rfl (Mod.refl _ _)
    refine opsOkA_cons ?_ ?_
    ·
     intro K vs W hR hD hK
     clear hD
     try dsimp only at hK ⊢
     simp only [Act.put, List.setIfInBounds_toArray, List.set_cons_succ, List.set_cons_zero] at hK
     go_wp2
     exact hK _ _ rfl (Mod.refl _ _)
    refine opsOkA_cons ?_ ?_
    ·
     intro K vs W hR hD hK
     clear hD
     try dsimp only at hK ⊢
     simp only [Act.put, List.setIfInBounds_toArray, List.set_cons_succ, List.set_cons_zero] at hK
     go_wp2
     exact hK _ _ rfl (Mod.refl _ _)
    refine opsOkA_cons ?_ ?_
    ·
     intro K vs W hR hD hK
     have dq1 : vs 1 = .slice aa lT ca := hD 1 (by decide)
     have dq2 : vs 2 = .int .i64 (k : Int) := hD 2 (by decide)
     clear hD
     try dsimp only at hK ⊢
     simp only [Act.put, List.setIfInBounds_toArray, List.set_cons_succ, List.set_cons_zero] at hK
     generalize vs 1 = vq1 at hK dq1 ⊢
     subst vq1
     generalize vs 2 = vq2 at hK dq2 ⊢
     subst vq2
     have hix := HIe.out
     go_wp2_with fail
     exact hK _ _ rfl (Mod.refl _ _)
    refine opsOkA_cons ?_ ?_
    ·
     intro K vs W hR hD hK
     have dq3 : vs 3 = .pointer (some ⟨eb, eo, none⟩) := hD 3 (by decide)
     clear hD
     try dsimp only at hK ⊢
     simp only [Act.put, List.setIfInBounds_toArray, List.set_cons_succ, List.set_cons_zero] at hK
     generalize vs 3 = vq3 at hK dq3 ⊢
     subst vq3
     go_wp2
     exact hK _ _ rfl (Mod.refl _ _)
    refine opsOkA_cons ?_ ?_
    ·
     intro K vs W hR hD hK
     have dq4 : vs 4 = .pointer (some ⟨eb, eo, none⟩) := hD 4 (by decide)
     clear hD
     try dsimp only at hK ⊢
     simp only [Act.put, List.setIfInBounds_toArray, List.set_cons_succ, List.set_cons_zero] at hK
     generalize vs 4 = vq4 at hK dq4 ⊢
     subst vq4
     have c0 := (HSd.out.at (hR)).2.2.2.1
     go_wp2
     exact hK _ _ rfl (Mod.refl _ _)
    refine opsOkA_cons ?_ ?_
    ·
     intro K vs W hR hD hK
     clear hD
     try dsimp only at hK ⊢
     simp only [Act.put, List.setIfInBounds_toArray, List.set_cons_succ, List.set_cons_zero] at hK
     go_wp2
     exact hK _ _ rfl (Mod.refl _ _)
    refine opsOkA_cons ?_ ?_
    ·
     intro K vs W hR hD hK
     clear hD
     try dsimp only at hK ⊢
     simp only [Act.put, List.setIfInBounds_toArray, List.set_cons_succ, List.set_cons_zero] at hK
     go_wp2
     exact hK _ _ rfl (Mod.refl _ _)
    refine opsOkA_cons ?_ ?_
    ·
     intro K vs W hR hD hK
     have dq6 : vs 6 = .slice aa lT ca := hD 6 (by decide)
     have dq7 : vs 7 = .int .i64 (k : Int) := hD 7 (by decide)
     clear hD
     try dsimp only at hK ⊢
     simp only [Act.put, List.setIfInBounds_toArray, List.set_cons_succ, List.set_cons_zero] at hK
     generalize vs 6 = vq6 at hK dq6 ⊢
     subst vq6
     generalize vs 7 = vq7 at hK dq7 ⊢
     subst vq7
     have hix := HIe.out
     go_wp2_with fail
     exact hK _ _ rfl (Mod.refl _ _)
    refine opsOkA_cons ?_ ?_
    ·
     intro K vs W hR hD hK
     have dq8 : vs 8 = .pointer (some ⟨eb, eo, none⟩) := hD 8 (by decide)
     clear hD
     try dsimp only at hK ⊢
     simp only [Act.put, List.setIfInBounds_toArray, List.set_cons_succ, List.set_cons_zero] at hK
     generalize vs 8 = vq8 at hK dq8 ⊢
     subst vq8
     go_wp2
     exact hK _ _ rfl (Mod.refl _ _)
    refine opsOkA_cons ?_ ?_
    ·
     intro K vs W hR hD hK
     have dq9 : vs 9 = .pointer (some ⟨eb, eo + 1, none⟩) := hD 9 (by decide)
     clear hD
     try dsimp only at hK ⊢
     simp only [Act.put, List.setIfInBounds_toArray, List.set_cons_succ, List.set_cons_zero] at hK
     generalize vs 9 = vq9 at hK dq9 ⊢
     subst vq9
     have c1 := (HSd.out.at (hR)).2.2.1
     go_wp2
     exact hK _ _ rfl (Mod.refl _ _)
    refine opsOkA_cons ?_ ?_
    ·
     intro K vs W hR hD hK
     have dq0 : vs 0 = .pointer (some ⟨p, 0, none⟩) := hD 0 (by decide)
     have dq5 : vs 5 = .int .i64 yf := hD 5 (by decide)
     have dq10 : vs 10 = .int .i64 yt := hD 10 (by decide)
     clear hD
     try dsimp only at hK ⊢
     simp only [Act.put, List.setIfInBounds_toArray, List.set_cons_succ, List.set_cons_zero] at hK
     generalize vs 0 = vq0 at hK dq0 ⊢
     subst vq0
     generalize vs 5 = vq5 at hK dq5 ⊢
     subst vq5
     generalize vs 10 = vq10 at hK dq10 ⊢
     subst vq10
     go_wp2_with (go_at_call 33; refine (uarc_some ((HSd.out.at (hR)).2.2.2.2.2.2.2.2.2.2.2.1) (show n ≤ 512 by omega) H17.out.hT H17.out.hL H17.out.hD h20 H17.out.hin HU.out.2 HU.out.1).mono ?_; rintro e' w' ⟨v', rfl, hx', hm'⟩)
     exact hK _ _ hx' hm'
    refine opsOkA_cons ?_ ?_
    ·
     intro K vs W hR hD hK
     have dq11 : (UdT r) (vs 11) W := hD 11 (by decide)
     clear hD
     try dsimp only at hK ⊢
     simp only [Act.put, List.setIfInBounds_toArray, List.set_cons_succ, List.set_cons_zero] at hK
     generalize vs 11 = vq11 at hK dq11 ⊢
     obtain ⟨⟨ax11, cx11, rfl, hx11⟩⟩ := dq11
     go_wp2
     exact hK _ _ ⟨ax11, cx11, rfl, hx11⟩ (Mod.refl _ _)
    refine opsOkA_cons ?_ ?_
    ·
     intro K vs W hR hD hK
     have dq12 : (UdT r) (vs 12) W := hD 12 (by decide)
     clear hD
     try dsimp only at hK ⊢
     simp only [Act.put, List.setIfInBounds_toArray, List.set_cons_succ, List.set_cons_zero] at hK
     generalize vs 12 = vq12 at hK dq12 ⊢
     obtain ⟨⟨ax12, cx12, rfl, hx12⟩⟩ := dq12
     go_wp2
     exact hK _ _ ⟨ax12, cx12, rfl, hx12⟩ (Mod.refl _ _)
    refine opsOkA_cons ?_ ?_
    ·
     intro K vs W hR hD hK
     have dq12 : (UdT r) (vs 12) W := hD 12 (by decide)
     clear hD
     try dsimp only at hK ⊢
     simp only [Act.put, List.setIfInBounds_toArray, List.set_cons_succ, List.set_cons_zero] at hK
     generalize vs 12 = vq12 at hK dq12 ⊢
     obtain ⟨⟨ax12, cx12, rfl, hx12⟩⟩ := dq12
     go_wp2
     exact hK _ _ rfl (Mod.refl _ _)
    refine opsOkA_cons ?_ ?_
    ·
     intro K vs W hR hD hK
     have dq13 : (RuX r) (vs 13) W := hD 13 (by decide)
     clear hD
     try dsimp only at hK ⊢
     simp only [Act.put, List.setIfInBounds_toArray, List.set_cons_succ, List.set_cons_zero] at hK
     generalize vs 13 = vq13 at hK dq13 ⊢
     obtain ⟨⟨ax13, cx13, rfl, hx13⟩⟩ := dq13
     go_wp2
     exact hK _ _ ⟨ax13, cx13, rfl, hx13⟩ (Mod.refl _ _)
    refine opsOkA_cons ?_ ?_
    ·
     intro K vs W hR hD hK
     have dq14 : vs 14 = .int .i64 0 := hD 14 (by decide)
     clear hD
     try dsimp only at hK ⊢
     simp only [Act.put, List.setIfInBounds_toArray, List.set_cons_succ, List.set_cons_zero] at hK
     generalize vs 14 = vq14 at hK dq14 ⊢
     subst vq14
     go_wp2
     exact hK _ _ rfl (Mod.refl _ _)
    exact opsOkA_nil
   ·
    intro vs wq2 hR hF
    have dq15 : (RuX r) (vs 15) wq2 := hF 15 (by decide)
    have dq16 : vs 16 = .int .i64 0 := hF 16 (by decide)
    clear hF
    try dsimp only
    generalize vs 15 = vq15 at dq15 ⊢
    generalize vs 16 = vq16 at dq16 ⊢
    subst dq16
    replace HS := Lib.hid (HSd.out.step hR)
    clear HSd hR
    have hbm := (HS.out.now).2.2.2.2.2.2.2.2.2.1
    have qm_0 := hbm.cell 0 rfl
    have qm_1 := hbm.cell 1 rfl
    have lm := hbm.lt
    clear hbm
    have hbp := (HS.out.now).2.2.2.2.2.2.2.1
    have qp_0 := hbp.cell 0 rfl
    have qp_1 := hbp.cell 1 rfl
    have qp_2 := hbp.cell 2 rfl
    have lp := hbp.lt
    clear hbp
    obtain ⟨⟨ax, cx, rfl, hx⟩⟩ := dq15
    rw [HNR.out] at hx ⊢
    replace HS := Lib.hid ((Ev.rd hx).and HS.out)
    obtain ⟨ub, uo, hp0, g0⟩ := rd1 hx 0 (by rw [HNR.out]; omega)
    obtain ⟨yb, yo, hp1, g1⟩ := rd1 hx nr (by rw [HNR.out]; omega)
    rw [getD_at (by rw [HNR.out]; omega)] at g0 g1
    rw [HHL.out.1] at g0
    rw [HHL.out.2] at g1
    have hix0 : ∀ wx, (Instr.indexAt 40 (.slice ax (nr + 1) cx) (.int .i64 0)).run Tryz.prog wx = .ok (.pointer (some (elemA ax 0 1))) wx := fun wx => run_indexS (P := Tryz.prog) wx 40 3 iI 1 Tryz.underlying40 hiI hsI ax (nr + 1) cx 0 (by omega) (hx.some_ (by omega))
    have hix1 := fun wx => run_indexS (P := Tryz.prog) wx 40 3 iI 1 Tryz.underlying40 hiI hsI ax (nr + 1) cx nr (by omega) (hx.some_ (by omega))
    rw [hp0] at hix0
    rw [hp1] at hix1
    have hsub : IntKind.i64.wrap ((nr : Int) + 1 - 1) = (nr : Int) := by rw [IntWalk.i64_in _ (by omega)]; omega
    have z3 : decide ((nr : Int) + 1 < 2) = false := by simp; omega
    have z3b : decide (nr + 1 < 2) = false := by simp; omega
    have z4 : (yf != yf) = false := by simp
    have z5 : (yt != yt) = false := by simp
    replace HS := Lib.hid ((Ev.cell g0).and HS.out)
    replace HS := Lib.hid ((Ev.cell g1).and HS.out)
    have HIu := Lib.hid hix0
    have HIy := Lib.hid hix1
    clear hix0 hix1 hx hp0 hp1 g0 g1
    go_upto_region 11 with fail
    clear qm_0 qm_1 lm qp_0 qp_1 qp_2 lp
    have HSd := Lib.hid HS.out.drew
    refine wp_region_inv3 (act := ?actua_r11_1) (Mod (fun _ => False)) (fun i => (ua_r11_1_F k lT aa ax ca nr cx yf yt eb eo ub uo yb yo).getD i (fun _ _ => True)) (fun i => ua_r11_1_D.getD i []) (by kernel_rfl) (by kernel_rfl) (by kernel_rfl) (by kernel_rfl) (fun _ => Mod.refl _ _)
     (fun _ _ _ h k => h.trans k (fun _ _ e => e) (fun _ _ e => e)) ?hactua_r11_1 (stable_list ?_) ?_ ?_
    case hactua_r11_1 => intro vs; simp only [putAll, Nat.zero_add, Nat.reduceAdd, Act.put, List.setIfInBounds_toArray, List.set_cons_succ, List.set_cons_zero]; exact rfl
    ·
     unfold ua_r11_1_F
     exact stable_cons (stable_val _) <| stable_cons (stable_val _) <| stable_cons (stable_val _) <| stable_cons (stable_val _) <| stable_cons (stable_val _) <| stable_cons (stable_val _) <| stable_cons (stable_val _) <| stable_cons (stable_val _) <| stable_cons (stable_val _) <| stable_cons (stable_val _) <| stable_cons (stable_val _) <| stable_cons (stable_val _) <| stable_cons (stable_val _) <| stable_cons (stable_val _) <| stable_cons (stable_val _) <| stable_cons (stable_val _) <| stable_cons (stable_val _) <| stable_cons (stable_val _) <| stable_cons (stable_val _) <| stable_cons (stable_val _) <| stable_cons (stable_val _) <| stable_cons (stable_val _) <| stable_cons (stable_val _) <| stable_cons (stable_val _) <| stable_cons (stable_val _) <| stable_cons (stable_val _) <| stable_cons (stable_val _) <| stable_cons (stable_val _) <| stable_cons (stable_val _) <| stable_cons (stable_val _) <| stable_cons (stable_val _) <| stable_cons (stable_val _) <| stable_nil
    ·
     refine opsOkA_cons ?_ ?_
     ·
      intro K vs W hR hD hK
      clear hD
      try dsimp only at hK ⊢
      simp only [Act.put, List.setIfInBounds_toArray, List.set_cons_succ, List.set_cons_zero] at hK
      go_wp2
      exact hK _ _ rfl (Mod.refl _ _)
     refine opsOkA_cons ?_ ?_
     ·
      intro K vs W hR hD hK
      have dq0 : vs 0 = .int .i64 0 := hD 0 (by decide)
      clear hD
      try dsimp only at hK ⊢
      simp only [Act.put, List.setIfInBounds_toArray, List.set_cons_succ, List.set_cons_zero] at hK
      generalize vs 0 = vq0 at hK dq0 ⊢
      subst vq0
      go_wp2
      exact hK _ _ rfl (Mod.refl _ _)
     refine opsOkA_cons ?_ ?_
     ·
      intro K vs W hR hD hK
      have dq1 : vs 1 = .bool false := hD 1 (by decide)
      clear hD
      try dsimp only at hK ⊢
      simp only [Act.put, List.setIfInBounds_toArray, List.set_cons_succ, List.set_cons_zero] at hK
      generalize vs 1 = vq1 at hK dq1 ⊢
      subst vq1
      go_wp2
      exact hK _ _ rfl (Mod.refl _ _)
     refine opsOkA_cons ?_ ?_
     ·
      intro K vs W hR hD hK
      have dq2 : vs 2 = .bool false := hD 2 (by decide)
      clear hD
      try dsimp only at hK ⊢
      simp only [Act.put, List.setIfInBounds_toArray, List.set_cons_succ, List.set_cons_zero] at hK
      generalize vs 2 = vq2 at hK dq2 ⊢
      subst vq2
      go_wp2
      exact hK _ _ rfl (Mod.refl _ _)
     refine opsOkA_cons ?_ ?_
     ·
      intro K vs W hR hD hK
      have dq2 : vs 2 = .bool false := hD 2 (by decide)
      have dq3 : vs 3 = .slice ax (nr + 1) cx := hD 3 (by decide)
      clear hD
      try dsimp only at hK ⊢
      simp only [Act.put, List.setIfInBounds_toArray, List.set_cons_succ, List.set_cons_zero] at hK
      generalize vs 2 = vq2 at hK dq2 ⊢
      subst vq2
      generalize vs 3 = vq3 at hK dq3 ⊢
      subst vq3
      go_wp2_with fail
      exact hK _ _ rfl (Mod.refl _ _)
     refine opsOkA_cons ?_ ?_
     ·
      intro K vs W hR hD hK
      have dq2 : vs 2 = .bool false := hD 2 (by decide)
      have dq4 : vs 4 = .int .i64 ((nr : Int) + 1) := hD 4 (by decide)
      clear hD
      try dsimp only at hK ⊢
      simp only [Act.put, List.setIfInBounds_toArray, List.set_cons_succ, List.set_cons_zero] at hK
      generalize vs 2 = vq2 at hK dq2 ⊢
      subst vq2
      generalize vs 4 = vq4 at hK dq4 ⊢
      subst vq4
      go_wp2
      exact hK _ _ rfl (Mod.refl _ _)
     refine opsOkA_cons ?_ ?_
     ·
      intro K vs W hR hD hK
      have dq2 : vs 2 = .bool false := hD 2 (by decide)
      have dq5 : vs 5 = .bool false := hD 5 (by decide)
      clear hD
      try dsimp only at hK ⊢
      simp only [Act.put, List.setIfInBounds_toArray, List.set_cons_succ, List.set_cons_zero] at hK
      generalize vs 2 = vq2 at hK dq2 ⊢
      subst vq2
      generalize vs 5 = vq5 at hK dq5 ⊢
      subst vq5
      go_wp2
      exact hK _ _ rfl (Mod.refl _ _)
     refine opsOkA_cons ?_ ?_
     ·
      intro K vs W hR hD hK
      have dq6 : vs 6 = .bool false := hD 6 (by decide)
      clear hD
      try dsimp only at hK ⊢
      simp only [Act.put, List.setIfInBounds_toArray, List.set_cons_succ, List.set_cons_zero] at hK
      generalize vs 6 = vq6 at hK dq6 ⊢
      subst vq6
      go_wp2
      exact hK _ _ rfl (Mod.refl _ _)
     refine opsOkA_cons ?_ ?_
     ·
      intro K vs W hR hD hK
      have dq7 : vs 7 = .bool false := hD 7 (by decide)
      clear hD
      try dsimp only at hK ⊢
      simp only [Act.put, List.setIfInBounds_toArray, List.set_cons_succ, List.set_cons_zero] at hK
      generalize vs 7 = vq7 at hK dq7 ⊢
      subst vq7
      go_wp2
      exact hK _ _ rfl (Mod.refl _ _)
     refine opsOkA_cons ?_ ?_
     ·
      intro K vs W hR hD hK
      have dq7 : vs 7 = .bool false := hD 7 (by decide)
      have dq8 : vs 8 = .slice ax (nr + 1) cx := hD 8 (by decide)
      clear hD
      try dsimp only at hK ⊢
      simp only [Act.put, List.setIfInBounds_toArray, List.set_cons_succ, List.set_cons_zero] at hK
      generalize vs 7 = vq7 at hK dq7 ⊢
      subst vq7
      generalize vs 8 = vq8 at hK dq8 ⊢
      subst vq8
      have hix := HIu.out
      go_wp2_with fail
      exact hK _ _ rfl (Mod.refl _ _)
     refine opsOkA_cons ?_ ?_
     ·
      intro K vs W hR hD hK
      have dq7 : vs 7 = .bool false := hD 7 (by decide)
      have dq9 : vs 9 = .pointer (some ⟨ub, uo, none⟩) := hD 9 (by decide)
      clear hD
      try dsimp only at hK ⊢
      simp only [Act.put, List.setIfInBounds_toArray, List.set_cons_succ, List.set_cons_zero] at hK
      generalize vs 7 = vq7 at hK dq7 ⊢
      subst vq7
      generalize vs 9 = vq9 at hK dq9 ⊢
      subst vq9
      have c0 := (HSd.out.at (hR)).2.1
      go_wp2
      exact hK _ _ rfl (Mod.refl _ _)
     refine opsOkA_cons ?_ ?_
     ·
      intro K vs W hR hD hK
      have dq7 : vs 7 = .bool false := hD 7 (by decide)
      clear hD
      try dsimp only at hK ⊢
      simp only [Act.put, List.setIfInBounds_toArray, List.set_cons_succ, List.set_cons_zero] at hK
      generalize vs 7 = vq7 at hK dq7 ⊢
      subst vq7
      go_wp2
      exact hK _ _ rfl (Mod.refl _ _)
     refine opsOkA_cons ?_ ?_
     ·
      intro K vs W hR hD hK
      have dq7 : vs 7 = .bool false := hD 7 (by decide)
      clear hD
      try dsimp only at hK ⊢
      simp only [Act.put, List.setIfInBounds_toArray, List.set_cons_succ, List.set_cons_zero] at hK
      generalize vs 7 = vq7 at hK dq7 ⊢
      subst vq7
      go_wp2
      exact hK _ _ rfl (Mod.refl _ _)
     refine opsOkA_cons ?_ ?_
     ·
      intro K vs W hR hD hK
      have dq7 : vs 7 = .bool false := hD 7 (by decide)
      have dq11 : vs 11 = .slice aa lT ca := hD 11 (by decide)
      have dq12 : vs 12 = .int .i64 (k : Int) := hD 12 (by decide)
      clear hD
      try dsimp only at hK ⊢
      simp only [Act.put, List.setIfInBounds_toArray, List.set_cons_succ, List.set_cons_zero] at hK
      generalize vs 7 = vq7 at hK dq7 ⊢
      subst vq7
      generalize vs 11 = vq11 at hK dq11 ⊢
      subst vq11
      generalize vs 12 = vq12 at hK dq12 ⊢
      subst vq12
      have hix := HIe.out
      go_wp2_with fail
      exact hK _ _ rfl (Mod.refl _ _)
     refine opsOkA_cons ?_ ?_
     ·
      intro K vs W hR hD hK
      have dq7 : vs 7 = .bool false := hD 7 (by decide)
      have dq13 : vs 13 = .pointer (some ⟨eb, eo, none⟩) := hD 13 (by decide)
      clear hD
      try dsimp only at hK ⊢
      simp only [Act.put, List.setIfInBounds_toArray, List.set_cons_succ, List.set_cons_zero] at hK
      generalize vs 7 = vq7 at hK dq7 ⊢
      subst vq7
      generalize vs 13 = vq13 at hK dq13 ⊢
      subst vq13
      go_wp2
      exact hK _ _ rfl (Mod.refl _ _)
     refine opsOkA_cons ?_ ?_
     ·
      intro K vs W hR hD hK
      have dq7 : vs 7 = .bool false := hD 7 (by decide)
      have dq14 : vs 14 = .pointer (some ⟨eb, eo, none⟩) := hD 14 (by decide)
      clear hD
      try dsimp only at hK ⊢
      simp only [Act.put, List.setIfInBounds_toArray, List.set_cons_succ, List.set_cons_zero] at hK
      generalize vs 7 = vq7 at hK dq7 ⊢
      subst vq7
      generalize vs 14 = vq14 at hK dq14 ⊢
      subst vq14
      have c0 := (HSd.out.at (hR)).2.2.2.2.2.2.1
      go_wp2
      exact hK _ _ rfl (Mod.refl _ _)
     refine opsOkA_cons ?_ ?_
     ·
      intro K vs W hR hD hK
      have dq7 : vs 7 = .bool false := hD 7 (by decide)
      have dq10 : vs 10 = .int .i64 yf := hD 10 (by decide)
      have dq15 : vs 15 = .int .i64 yf := hD 15 (by decide)
      clear hD
      try dsimp only at hK ⊢
      simp only [Act.put, List.setIfInBounds_toArray, List.set_cons_succ, List.set_cons_zero] at hK
      generalize vs 7 = vq7 at hK dq7 ⊢
      subst vq7
      generalize vs 10 = vq10 at hK dq10 ⊢
      subst vq10
      generalize vs 15 = vq15 at hK dq15 ⊢
      subst vq15
      go_wp2
      exact hK _ _ rfl (Mod.refl _ _)
     refine opsOkA_cons ?_ ?_
     ·
      intro K vs W hR hD hK
      have dq7 : vs 7 = .bool false := hD 7 (by decide)
      have dq16 : vs 16 = .bool false := hD 16 (by decide)
      clear hD
      try dsimp only at hK ⊢
      simp only [Act.put, List.setIfInBounds_toArray, List.set_cons_succ, List.set_cons_zero] at hK
      generalize vs 7 = vq7 at hK dq7 ⊢
      subst vq7
      generalize vs 16 = vq16 at hK dq16 ⊢
      subst vq16
      go_wp2
      exact hK _ _ rfl (Mod.refl _ _)
     refine opsOkA_cons ?_ ?_
     ·
      intro K vs W hR hD hK
      have dq17 : vs 17 = .bool false := hD 17 (by decide)
      clear hD
      try dsimp only at hK ⊢
      simp only [Act.put, List.setIfInBounds_toArray, List.set_cons_succ, List.set_cons_zero] at hK
      generalize vs 17 = vq17 at hK dq17 ⊢
      subst vq17
      go_wp2
      exact hK _ _ rfl (Mod.refl _ _)
     refine opsOkA_cons ?_ ?_
     ·
      intro K vs W hR hD hK
      have dq18 : vs 18 = .bool false := hD 18 (by decide)
      clear hD
      try dsimp only at hK ⊢
      simp only [Act.put, List.setIfInBounds_toArray, List.set_cons_succ, List.set_cons_zero] at hK
      generalize vs 18 = vq18 at hK dq18 ⊢
      subst vq18
      go_wp2
      exact hK _ _ rfl (Mod.refl _ _)
     refine opsOkA_cons ?_ ?_
     ·
      intro K vs W hR hD hK
      have dq18 : vs 18 = .bool false := hD 18 (by decide)
      clear hD
      try dsimp only at hK ⊢
      simp only [Act.put, List.setIfInBounds_toArray, List.set_cons_succ, List.set_cons_zero] at hK
      generalize vs 18 = vq18 at hK dq18 ⊢
      subst vq18
      go_wp2
      exact hK _ _ rfl (Mod.refl _ _)
     refine opsOkA_cons ?_ ?_
     ·
      intro K vs W hR hD hK
      have dq18 : vs 18 = .bool false := hD 18 (by decide)
      have dq20 : vs 20 = .slice ax (nr + 1) cx := hD 20 (by decide)
      clear hD
      try dsimp only at hK ⊢
      simp only [Act.put, List.setIfInBounds_toArray, List.set_cons_succ, List.set_cons_zero] at hK
      generalize vs 18 = vq18 at hK dq18 ⊢
      subst vq18
      generalize vs 20 = vq20 at hK dq20 ⊢
      subst vq20
      go_wp2_with fail
      exact hK _ _ rfl (Mod.refl _ _)
     refine opsOkA_cons ?_ ?_
     ·
      intro K vs W hR hD hK
      have dq18 : vs 18 = .bool false := hD 18 (by decide)
      have dq21 : vs 21 = .int .i64 ((nr : Int) + 1) := hD 21 (by decide)
      clear hD
      try dsimp only at hK ⊢
      simp only [Act.put, List.setIfInBounds_toArray, List.set_cons_succ, List.set_cons_zero] at hK
      generalize vs 18 = vq18 at hK dq18 ⊢
      subst vq18
      generalize vs 21 = vq21 at hK dq21 ⊢
      subst vq21
      go_wp2
      exact hK _ _ rfl (Mod.refl _ _)
     refine opsOkA_cons ?_ ?_
     ·
      intro K vs W hR hD hK
      have dq18 : vs 18 = .bool false := hD 18 (by decide)
      have dq19 : vs 19 = .slice ax (nr + 1) cx := hD 19 (by decide)
      have dq22 : vs 22 = .int .i64 (nr : Int) := hD 22 (by decide)
      clear hD
      try dsimp only at hK ⊢
      simp only [Act.put, List.setIfInBounds_toArray, List.set_cons_succ, List.set_cons_zero] at hK
      generalize vs 18 = vq18 at hK dq18 ⊢
      subst vq18
      generalize vs 19 = vq19 at hK dq19 ⊢
      subst vq19
      generalize vs 22 = vq22 at hK dq22 ⊢
      subst vq22
      have hix := HIy.out
      go_wp2_with fail
      exact hK _ _ rfl (Mod.refl _ _)
     refine opsOkA_cons ?_ ?_
     ·
      intro K vs W hR hD hK
      have dq18 : vs 18 = .bool false := hD 18 (by decide)
      have dq23 : vs 23 = .pointer (some ⟨yb, yo, none⟩) := hD 23 (by decide)
      clear hD
      try dsimp only at hK ⊢
      simp only [Act.put, List.setIfInBounds_toArray, List.set_cons_succ, List.set_cons_zero] at hK
      generalize vs 18 = vq18 at hK dq18 ⊢
      subst vq18
      generalize vs 23 = vq23 at hK dq23 ⊢
      subst vq23
      have c0 := (HSd.out.at (hR)).1
      go_wp2
      exact hK _ _ rfl (Mod.refl _ _)
     refine opsOkA_cons ?_ ?_
     ·
      intro K vs W hR hD hK
      have dq18 : vs 18 = .bool false := hD 18 (by decide)
      clear hD
      try dsimp only at hK ⊢
      simp only [Act.put, List.setIfInBounds_toArray, List.set_cons_succ, List.set_cons_zero] at hK
      generalize vs 18 = vq18 at hK dq18 ⊢
      subst vq18
      go_wp2
      exact hK _ _ rfl (Mod.refl _ _)
     refine opsOkA_cons ?_ ?_
     ·
      intro K vs W hR hD hK
      have dq18 : vs 18 = .bool false := hD 18 (by decide)
      clear hD
      try dsimp only at hK ⊢
      simp only [Act.put, List.setIfInBounds_toArray, List.set_cons_succ, List.set_cons_zero] at hK
      generalize vs 18 = vq18 at hK dq18 ⊢
      subst vq18
      go_wp2
      exact hK _ _ rfl (Mod.refl _ _)
     refine opsOkA_cons ?_ ?_
     ·
      intro K vs W hR hD hK
      have dq18 : vs 18 = .bool false := hD 18 (by decide)
      have dq25 : vs 25 = .slice aa lT ca := hD 25 (by decide)
      have dq26 : vs 26 = .int .i64 (k : Int) := hD 26 (by decide)
      clear hD
      try dsimp only at hK ⊢
      simp only [Act.put, List.setIfInBounds_toArray, List.set_cons_succ, List.set_cons_zero] at hK
      generalize vs 18 = vq18 at hK dq18 ⊢
      subst vq18
      generalize vs 25 = vq25 at hK dq25 ⊢
      subst vq25
      generalize vs 26 = vq26 at hK dq26 ⊢
      subst vq26
      have hix := HIe.out
      go_wp2_with fail
      exact hK _ _ rfl (Mod.refl _ _)
     refine opsOkA_cons ?_ ?_
     ·
      intro K vs W hR hD hK
      have dq18 : vs 18 = .bool false := hD 18 (by decide)
      have dq27 : vs 27 = .pointer (some ⟨eb, eo, none⟩) := hD 27 (by decide)
      clear hD
      try dsimp only at hK ⊢
      simp only [Act.put, List.setIfInBounds_toArray, List.set_cons_succ, List.set_cons_zero] at hK
      generalize vs 18 = vq18 at hK dq18 ⊢
      subst vq18
      generalize vs 27 = vq27 at hK dq27 ⊢
      subst vq27
      go_wp2
      exact hK _ _ rfl (Mod.refl _ _)
     refine opsOkA_cons ?_ ?_
     ·
      intro K vs W hR hD hK
      have dq18 : vs 18 = .bool false := hD 18 (by decide)
      have dq28 : vs 28 = .pointer (some ⟨eb, eo + 1, none⟩) := hD 28 (by decide)
      clear hD
      try dsimp only at hK ⊢
      simp only [Act.put, List.setIfInBounds_toArray, List.set_cons_succ, List.set_cons_zero] at hK
      generalize vs 18 = vq18 at hK dq18 ⊢
      subst vq18
      generalize vs 28 = vq28 at hK dq28 ⊢
      subst vq28
      have c1 := (HSd.out.at (hR)).2.2.2.2.2.1
      go_wp2
      exact hK _ _ rfl (Mod.refl _ _)
     refine opsOkA_cons ?_ ?_
     ·
      intro K vs W hR hD hK
      have dq18 : vs 18 = .bool false := hD 18 (by decide)
      have dq24 : vs 24 = .int .i64 yt := hD 24 (by decide)
      have dq29 : vs 29 = .int .i64 yt := hD 29 (by decide)
      clear hD
      try dsimp only at hK ⊢
      simp only [Act.put, List.setIfInBounds_toArray, List.set_cons_succ, List.set_cons_zero] at hK
      generalize vs 18 = vq18 at hK dq18 ⊢
      subst vq18
      generalize vs 24 = vq24 at hK dq24 ⊢
      subst vq24
      generalize vs 29 = vq29 at hK dq29 ⊢
      subst vq29
      go_wp2
      exact hK _ _ rfl (Mod.refl _ _)
     refine opsOkA_cons ?_ ?_
     ·
      intro K vs W hR hD hK
      have dq18 : vs 18 = .bool false := hD 18 (by decide)
      have dq30 : vs 30 = .bool false := hD 30 (by decide)
      clear hD
      try dsimp only at hK ⊢
      simp only [Act.put, List.setIfInBounds_toArray, List.set_cons_succ, List.set_cons_zero] at hK
      generalize vs 18 = vq18 at hK dq18 ⊢
      subst vq18
      generalize vs 30 = vq30 at hK dq30 ⊢
      subst vq30
      go_wp2
      exact hK _ _ rfl (Mod.refl _ _)
     exact opsOkA_nil
    ·
     intro vs wq3 hR hF
     have dq31 : vs 31 = .bool false := hF 31 (by decide)
     clear hF
     try dsimp only
     generalize vs 31 = vq31 at dq31 ⊢
     subst dq31
     replace HS := Lib.hid (HSd.out.step hR)
     clear HSd hR
     have hbm := (HS.out.now).2.2.2.2.2.2.2.2.2.2.2.2.1
     have qm_0 := hbm.cell 0 rfl
     have qm_1 := hbm.cell 1 rfl
     have lm := hbm.lt
     clear hbm
     have hbp := (HS.out.now).2.2.2.2.2.2.2.2.2.2.1
     have qp_0 := hbp.cell 0 rfl
     have qp_1 := hbp.cell 1 rfl
     have qp_2 := hbp.cell 2 rfl
     have lp := hbp.lt
     clear hbp
     clear hsub z3 z3b z4 z5
     go_wp2_with fail
     replace HS := Lib.hid ((Ev.mod wq3).and HS.out)
     go_loopw [12, 13] (fun s j wr => ∃ k2 : Nat, k2 ≤ nr ∧ j = .int .i64 (k2 : Int) ∧ s = .int .i64 (chS L r k2) ∧ Mod (fun _ => False) wq3 wr) (fun s j _ => nr - (intOf j).toNat)
     case atStart => exact ⟨0, by omega, rfl, rfl, Mod.refl _ _⟩
     case round =>
      obtain ⟨k2, hk2, rfl, rfl, hmr⟩ := hrel
      obtain ⟨wo2, hwo⟩ : ∃ x : World, x = wr := ⟨_, rfl⟩
      subst hwo
      replace HS := Lib.hid (HS.out.step hmr)
      clear hmr
      clear qm_0 qm_1 lm qp_0 qp_1 qp_2 lp
      have hbm := (HS.out.now).2.2.2.2.2.2.2.2.2.2.2.2.2.1
      have qm_0 := hbm.cell 0 rfl
      have qm_1 := hbm.cell 1 rfl
      have lm := hbm.lt
      clear hbm
      have hbp := (HS.out.now).2.2.2.2.2.2.2.2.2.2.2.1
      have qp_0 := hbp.cell 0 rfl
      have qp_1 := hbp.cell 1 rfl
      have qp_2 := hbp.cell 2 rfl
      have lp := hbp.lt
      clear hbp
      have hst := HC.out.2.2 k2
      obtain ⟨cs, hcs⟩ : ∃ y, chS L r k2 = y := ⟨_, rfl⟩
      rw [hcs] at hst ⊢
      have HCS := Lib.hid hcs
      clear hcs
      by_cases hlt2 : k2 < nr
      case pos =>
       have z6 : decide ((k2 : Int) + 1 < (nr : Int) + 1) = true := by simp; omega
       obtain ⟨z, hz⟩ := HC.out.1 k2 (by omega)
       have hzs := chS_step hz
       have hzw := HW20.out z (findN_inv hz).1
       obtain ⟨ub, uo, hp0, g0⟩ := rd1 ((HS.out.now).2.2.2.1) k2 (by rw [HNR.out]; omega)
       obtain ⟨yb, yo, hp1, g1⟩ := rd1 ((HS.out.now).2.2.2.1) (k2 + 1) (by rw [HNR.out]; omega)
       rw [getD_at (by rw [HNR.out]; omega)] at g0 g1
       have hix0 := fun wx => run_indexS (P := Tryz.prog) wx 40 3 iI 1 Tryz.underlying40 hiI hsI ax (nr + 1) cx k2 (by omega) (((HS.out.now).2.2.2.1).some_ (by omega))
       have hix1 : ∀ wx, (Instr.indexAt 40 (.slice ax (nr + 1) cx) (.int .i64 ((k2 : Int) + 1))).run Tryz.prog wx = .ok (.pointer (some (elemA ax (k2 + 1) 1))) wx := fun wx => run_indexS (P := Tryz.prog) wx 40 3 iI 1 Tryz.underlying40 hiI hsI ax (nr + 1) cx (k2 + 1) (by omega) (((HS.out.now).2.2.2.1).some_ (by omega))
       rw [hp0] at hix0
       rw [hp1] at hix1
       have HIu := Lib.hid hix0
       have HIy := Lib.hid hix1
       clear hix0 hix1 hp0 hp1
       obtain ⟨xf, hxf⟩ : ∃ y, r.getD k2 0 = y := ⟨_, rfl⟩
       obtain ⟨xt, hxt⟩ : ∃ y, r.getD (k2 + 1) 0 = y := ⟨_, rfl⟩
       rw [hxf, hxt] at hz
       rw [hxf] at g0
       rw [hxt] at g1
       replace HS := Lib.hid ((Ev.cell g0).and HS.out)
       replace HS := Lib.hid ((Ev.cell g1).and HS.out)
       obtain ⟨b, hb1, hb2, hb3, hb4⟩ : ∃ b, findN L xf xt = some b ∧ isN L ⟨xf, xt, 0, 0⟩ = true ∧ posN L ⟨xf, xt, 0, 0⟩ < L.length ∧ L[posN L ⟨xf, xt, 0, 0⟩]? = some b := by
        rcases find_case17 H17.out.hL.sort xf xt with h | ⟨h, _⟩
        ·
         exact h
        ·
         rw [hz] at h; cases h
       rw [hz] at hb1
       obtain rfl := Option.some.inj hb1
       obtain ⟨fp, hfp⟩ : ∃ y, posN L ⟨xf, xt, 0, 0⟩ = y := ⟨_, rfl⟩
       rw [hfp] at hb3 hb4
       have HF := Lib.hid (And.intro hfp hb2)
       have hfl : fp < lL := by rw [← HLL.out]; exact hb3
       have hLf : L[fp] = z := by rw [List.getElem?_eq_getElem hb3] at hb4; exact Option.some.inj hb4
       obtain ⟨zf, zt, zw, zm⟩ := z
       obtain ⟨lb, lo2, hpl, l0, l1, l2, l3⟩ := rd4 ((HS.out.now).2.2.2.2.2.2.2.2.2.2.2.2.2.2.1) fp hb3
       rw [hLf] at l2
       simp only at l2 hzs hzw
       have hixl := fun wx => run_indexS (P := Tryz.prog) wx 34 50 iA 4 Tryz.underlying34 hiA hsA ra lL rc fp hfl (((HS.out.now).2.2.2.2.2.2.2.2.2.2.2.2.2.2.1).some_ (by omega))
       rw [hpl] at hixl
       have HIl := Lib.hid hixl
       replace HS := Lib.hid ((Ev.cell l2).and HS.out)
       have HZS := Lib.hid hzs
       clear hxf hxt hz hb1 hb2 hb3 hb4 hfp hLf hpl l0 l1 l2 l3 hixl g0 g1 hzs
       go_upto_region 17 with fail
       clear qm_0 qm_1 lm qp_0 qp_1 qp_2 lp
       have HSd := Lib.hid HS.out.drew
       refine wp_region_inv3 (act := ?actua_r17_2) (Mod (fun _ => False)) (fun i => (ua_r17_2_F m ax nr cx k2 ub uo yb yo xf xt fp).getD i (fun _ _ => True)) (fun i => ua_r17_2_D.getD i []) (by kernel_rfl) (by kernel_rfl) (by kernel_rfl) (by kernel_rfl) (fun _ => Mod.refl _ _)
        (fun _ _ _ h k => h.trans k (fun _ _ e => e) (fun _ _ e => e)) ?hactua_r17_2 (stable_list ?_) ?_ ?_
       case hactua_r17_2 => intro vs; simp only [putAll, Nat.zero_add, Nat.reduceAdd, Act.put, List.setIfInBounds_toArray, List.set_cons_succ, List.set_cons_zero]; exact rfl
       ·
        unfold ua_r17_2_F
        exact stable_cons (stable_val _) <| stable_cons (stable_val _) <| stable_cons (stable_val _) <| stable_cons (stable_val _) <| stable_cons (stable_val _) <| stable_cons (stable_val _) <| stable_cons (stable_val _) <| stable_cons (stable_val _) <| stable_cons (stable_val _) <| stable_cons (stable_val _) <| stable_cons (stable_val _) <| stable_cons (stable_val _) <| stable_cons (stable_val _) <| stable_cons (stable_val _) <| stable_cons (stable_val _) <| stable_cons (stable_val _) <| stable_nil
       ·
        refine opsOkA_cons ?_ ?_
        ·
         intro K vs W hR hD hK
         clear hD
         try dsimp only at hK ⊢
         simp only [Act.put, List.setIfInBounds_toArray, List.set_cons_succ, List.set_cons_zero] at hK
         go_wp2
         exact hK _ _ rfl (Mod.refl _ _)
        refine opsOkA_cons ?_ ?_
        ·
         intro K vs W hR hD hK
         clear hD
         try dsimp only at hK ⊢
         simp only [Act.put, List.setIfInBounds_toArray, List.set_cons_succ, List.set_cons_zero] at hK
         go_wp2
         exact hK _ _ rfl (Mod.refl _ _)
        refine opsOkA_cons ?_ ?_
        ·
         intro K vs W hR hD hK
         clear hD
         try dsimp only at hK ⊢
         simp only [Act.put, List.setIfInBounds_toArray, List.set_cons_succ, List.set_cons_zero] at hK
         go_wp2
         exact hK _ _ rfl (Mod.refl _ _)
        refine opsOkA_cons ?_ ?_
        ·
         intro K vs W hR hD hK
         have dq1 : vs 1 = .slice ax (nr + 1) cx := hD 1 (by decide)
         have dq2 : vs 2 = .int .i64 (k2 : Int) := hD 2 (by decide)
         clear hD
         try dsimp only at hK ⊢
         simp only [Act.put, List.setIfInBounds_toArray, List.set_cons_succ, List.set_cons_zero] at hK
         generalize vs 1 = vq1 at hK dq1 ⊢
         subst vq1
         generalize vs 2 = vq2 at hK dq2 ⊢
         subst vq2
         have hix := HIu.out
         go_wp2_with fail
         exact hK _ _ rfl (Mod.refl _ _)
        refine opsOkA_cons ?_ ?_
        ·
         intro K vs W hR hD hK
         have dq3 : vs 3 = .pointer (some ⟨ub, uo, none⟩) := hD 3 (by decide)
         clear hD
         try dsimp only at hK ⊢
         simp only [Act.put, List.setIfInBounds_toArray, List.set_cons_succ, List.set_cons_zero] at hK
         generalize vs 3 = vq3 at hK dq3 ⊢
         subst vq3
         have c0 := (HSd.out.at (hR)).2.2.1
         go_wp2
         exact hK _ _ rfl (Mod.refl _ _)
        refine opsOkA_cons ?_ ?_
        ·
         intro K vs W hR hD hK
         clear hD
         try dsimp only at hK ⊢
         simp only [Act.put, List.setIfInBounds_toArray, List.set_cons_succ, List.set_cons_zero] at hK
         go_wp2
         exact hK _ _ rfl (Mod.refl _ _)
        refine opsOkA_cons ?_ ?_
        ·
         intro K vs W hR hD hK
         clear hD
         try dsimp only at hK ⊢
         simp only [Act.put, List.setIfInBounds_toArray, List.set_cons_succ, List.set_cons_zero] at hK
         go_wp2
         exact hK _ _ rfl (Mod.refl _ _)
        refine opsOkA_cons ?_ ?_
        ·
         intro K vs W hR hD hK
         have dq6 : vs 6 = .int .i64 (k2 : Int) := hD 6 (by decide)
         clear hD
         try dsimp only at hK ⊢
         simp only [Act.put, List.setIfInBounds_toArray, List.set_cons_succ, List.set_cons_zero] at hK
         generalize vs 6 = vq6 at hK dq6 ⊢
         subst vq6
         go_wp2
         exact hK _ _ rfl (Mod.refl _ _)
        refine opsOkA_cons ?_ ?_
        ·
         intro K vs W hR hD hK
         have dq5 : vs 5 = .slice ax (nr + 1) cx := hD 5 (by decide)
         have dq7 : vs 7 = .int .i64 ((k2 : Int) + 1) := hD 7 (by decide)
         clear hD
         try dsimp only at hK ⊢
         simp only [Act.put, List.setIfInBounds_toArray, List.set_cons_succ, List.set_cons_zero] at hK
         generalize vs 5 = vq5 at hK dq5 ⊢
         subst vq5
         generalize vs 7 = vq7 at hK dq7 ⊢
         subst vq7
         have hix := HIy.out
         go_wp2_with fail
         exact hK _ _ rfl (Mod.refl _ _)
        refine opsOkA_cons ?_ ?_
        ·
         intro K vs W hR hD hK
         have dq8 : vs 8 = .pointer (some ⟨yb, yo, none⟩) := hD 8 (by decide)
         clear hD
         try dsimp only at hK ⊢
         simp only [Act.put, List.setIfInBounds_toArray, List.set_cons_succ, List.set_cons_zero] at hK
         generalize vs 8 = vq8 at hK dq8 ⊢
         subst vq8
         have c0 := (HSd.out.at (hR)).2.1
         go_wp2
         exact hK _ _ rfl (Mod.refl _ _)
        refine opsOkA_cons ?_ ?_
        ·
         intro K vs W hR hD hK
         have dq0 : vs 0 = .pointer (some ⟨m, 0, none⟩) := hD 0 (by decide)
         have dq4 : vs 4 = .int .i64 xf := hD 4 (by decide)
         have dq9 : vs 9 = .int .i64 xt := hD 9 (by decide)
         clear hD
         try dsimp only at hK ⊢
         simp only [Act.put, List.setIfInBounds_toArray, List.set_cons_succ, List.set_cons_zero] at hK
         generalize vs 0 = vq0 at hK dq0 ⊢
         subst vq0
         generalize vs 4 = vq4 at hK dq4 ⊢
         subst vq4
         generalize vs 9 = vq9 at hK dq9 ⊢
         subst vq9
         go_wp2_with (go_at_call 37; refine (rn_find ((HSd.out.at (hR)).2.2.2.2.2.2.2.2.2.2.2.2.2.2.2.2.2.1) H17.out.hL.sort (by have := HLL.out; omega) xf xt).mono ?_; rintro e' w' ⟨rfl, hm'⟩; rw [HF.out.1, HF.out.2])
         exact hK _ _ rfl hm'
        refine opsOkA_cons ?_ ?_
        ·
         intro K vs W hR hD hK
         have dq10 : vs 10 = .tuple #[.int .i64 (fp : Int), .bool true] := hD 10 (by decide)
         clear hD
         try dsimp only at hK ⊢
         simp only [Act.put, List.setIfInBounds_toArray, List.set_cons_succ, List.set_cons_zero] at hK
         generalize vs 10 = vq10 at hK dq10 ⊢
         subst vq10
         go_wp2
         exact hK _ _ rfl (Mod.refl _ _)
        refine opsOkA_cons ?_ ?_
        ·
         intro K vs W hR hD hK
         have dq11 : vs 11 = .tuple #[.int .i64 (fp : Int), .bool true] := hD 11 (by decide)
         clear hD
         try dsimp only at hK ⊢
         simp only [Act.put, List.setIfInBounds_toArray, List.set_cons_succ, List.set_cons_zero] at hK
         generalize vs 11 = vq11 at hK dq11 ⊢
         subst vq11
         go_wp2
         exact hK _ _ rfl (Mod.refl _ _)
        refine opsOkA_cons ?_ ?_
        ·
         intro K vs W hR hD hK
         have dq11 : vs 11 = .tuple #[.int .i64 (fp : Int), .bool true] := hD 11 (by decide)
         clear hD
         try dsimp only at hK ⊢
         simp only [Act.put, List.setIfInBounds_toArray, List.set_cons_succ, List.set_cons_zero] at hK
         generalize vs 11 = vq11 at hK dq11 ⊢
         subst vq11
         go_wp2
         exact hK _ _ rfl (Mod.refl _ _)
        refine opsOkA_cons ?_ ?_
        ·
         intro K vs W hR hD hK
         have dq12 : vs 12 = .int .i64 (fp : Int) := hD 12 (by decide)
         clear hD
         try dsimp only at hK ⊢
         simp only [Act.put, List.setIfInBounds_toArray, List.set_cons_succ, List.set_cons_zero] at hK
         generalize vs 12 = vq12 at hK dq12 ⊢
         subst vq12
         go_wp2
         exact hK _ _ rfl (Mod.refl _ _)
        refine opsOkA_cons ?_ ?_
        ·
         intro K vs W hR hD hK
         have dq13 : vs 13 = .bool true := hD 13 (by decide)
         clear hD
         try dsimp only at hK ⊢
         simp only [Act.put, List.setIfInBounds_toArray, List.set_cons_succ, List.set_cons_zero] at hK
         generalize vs 13 = vq13 at hK dq13 ⊢
         subst vq13
         go_wp2
         exact hK _ _ rfl (Mod.refl _ _)
        exact opsOkA_nil
       ·
        intro vs wq4 hR hF
        have dq14 : vs 14 = .int .i64 (fp : Int) := hF 14 (by decide)
        have dq15 : vs 15 = .bool true := hF 15 (by decide)
        clear hF
        try dsimp only
        generalize vs 14 = vq14 at dq14 ⊢
        subst dq14
        generalize vs 15 = vq15 at dq15 ⊢
        subst dq15
        replace HS := Lib.hid (HSd.out.step hR)
        clear HSd hR
        have hbm := (HS.out.now).2.2.2.2.2.2.2.2.2.2.2.2.2.2.2.2.1
        have qm_0 := hbm.cell 0 rfl
        have qm_1 := hbm.cell 1 rfl
        have lm := hbm.lt
        clear hbm
        have hbp := (HS.out.now).2.2.2.2.2.2.2.2.2.2.2.2.2.2.1
        have qp_0 := hbp.cell 0 rfl
        have qp_1 := hbp.cell 1 rfl
        have qp_2 := hbp.cell 2 rfl
        have lp := hbp.lt
        clear hbp
        have hixl := HIl.out
        have c2 := (HS.out.now).1
        go_wp2_with fail
        go_roundw
        case rel => exact ⟨k2 + 1, hlt2, by go_num, by rw [HZS.out, HCS.out], (HS.out.now).2.2.2.1⟩
        case measure => simp [intOf]; omega
      case neg =>
       obtain rfl : k2 = nr := by omega
       have z6 : decide ((k2 : Int) + 1 < (k2 : Int) + 1) = false := by simp
       have hcy : cs = yw := by rw [← HCS.out]; exact HC.out.2.1
       have z7 : (cs != yw) = false := by rw [hcy]; simp
       have HCY := Lib.hid hcy
       clear hcy
       have hix := HIe.out
       have c2 := (HS.out.now).2.2.2.2.2.1
       go_wp2_with fail
       go_roundw
       case rel => exact ⟨k + 1, hlt, by go_num, (HS.out.now).2.2.2.2.2.2.2.2.1⟩
       case measure => simp [intOf]; omega
  case neg =>
   have z0 : decide ((k : Int) < (lT : Int)) = false := by simp; omega
   go_wp2_with fail
   refine (awake17_any _).mono ?_
   rintro e wq5 ⟨rfl, hmn⟩
   replace HS := Lib.hid (HS.out.step hmn)
   clear hmn
   clear qm_0 qm_1 lm qp_0 qp_1 qp_2 lp
   have hbm := (HS.out.now).2.2.2.2.2.1
   have qm_0 := hbm.cell 0 rfl
   have qm_1 := hbm.cell 1 rfl
   have lm := hbm.lt
   clear hbm
   have hbp := (HS.out.now).2.2.2.1
   have qp_0 := hbp.cell 0 rfl
   have qp_1 := hbp.cell 1 rfl
   have qp_2 := hbp.cell 2 rfl
   have lp := hbp.lt
   clear hbp
   go_wp2_with fail
   go_ret
   exact ⟨rfl, HM1.out.of2 (HS.out.now).2.2.2.2.2.2.2.2⟩
theorem uarcs_law (w : World) (nv : Int) (_ : (Lit.int .i64 nv).wf = true) (a : Option Addr) (ln c : Nat) (T : List T3) (ok : (encSlice enc3).ok w (.slice a ln c, T)) :
  Calls Tryz.prog 7 #[.int .i64 nv, .slice a ln c] w fun e w' => e = .returned (.bool true) ∧ Below w.heap.size w w' := by
 obtain ⟨hT, hr⟩ := ok_t3 ok
 suffices h : Calls Tryz.prog 7 #[.int .i64 nv, .slice a ln c] w fun e w' => e = .returned (.bool true) ∧ Mod (fun _ => False) w w' from
  h.mono fun e w' h => ⟨h.1, h.2.below (Nat.le_refl _) (fun _ e => e.elim)⟩
 by_cases hno : ¬ (1 ≤ nv ∧ nv ≤ 20 ∧ ln ≤ 80)
 case pos =>
  clear hr hT ok
  have hend : ∀ (b0 b1 b2 : Bool), decide (nv < 1) = b0 → decide (20 < nv) = b1 → decide (80 < (ln : Int)) = b2 → (b0 || b1 || b2) = true →
    Calls Tryz.prog 7 #[.int .i64 nv, .slice a ln c] w fun e w' => e = .returned (.bool true) ∧ Mod (fun _ => False) w w' := by
   intro b0 b1 b2 hc0 hc1 hc2 hbb
   clear hno
   cases b0
   ·
    skip
    cases b1
    ·
     skip
     cases b2
     ·
      cases hbb
     ·
      clear hbb 
      go_enter Tryz.func7, Tryz.ntmps7
      go_wp2_with fail
      refine (awake17_any _).mono ?_
      rintro e w9 ⟨rfl, hm9⟩
      go_wp2_with fail
      go_ret
      exact ⟨rfl, hm9⟩
    ·
     clear hbb hc2
     go_enter Tryz.func7, Tryz.ntmps7
     go_wp2_with fail
     refine (awake17_any _).mono ?_
     rintro e w9 ⟨rfl, hm9⟩
     go_wp2_with fail
     go_ret
     exact ⟨rfl, hm9⟩
   ·
    clear hbb hc1 hc2
    go_enter Tryz.func7, Tryz.ntmps7
    go_wp2_with fail
    refine (awake17_any _).mono ?_
    rintro e w9 ⟨rfl, hm9⟩
    go_wp2_with fail
    go_ret
    exact ⟨rfl, hm9⟩
  refine hend _ _ _ rfl rfl rfl ?_
  simp only [Bool.or_eq_true, decide_eq_true_eq]
  omega
 case neg =>
  have hyes := Decidable.not_not.1 hno
  obtain ⟨n, rfl⟩ := Int.eq_ofNat_of_zero_le (show 0 ≤ nv by omega)
  exact uarcs_all w n (by omega) (by omega) a ln c T hT hr (by omega)

end Go.Proofs.YtjjedebjbgpimaaGreat
