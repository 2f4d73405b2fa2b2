/- Rows of datagrams; channel's Pass by contract. -/
import Derived.Test.YtdahoecejnnjkaaCh9
import Derived.Test.YtdahoecejnnjkaaRdT
import Derived.Deep.DeepCutAuto
namespace Go.Proofs.Ytdahoecejnnjkaa
open Go.RowKit Mile Go.Maps
set_option maxRecDepth 100000
theorem Ch.infoI : (Try.prog.info? 3).map (fun i => (i.zero, i.size, i.bytes)) = some (some (.int .i64 0), 1, 8) := by kernel_rfl
/-- A datagram but for its connection. -/
structure Dg where
  k : Int
  q : Int
  a : Int
  b : List Int
def dgC (conn : Int) (d : Dg) (v : Value) : List Value := [.int .i64 conn, .int .i64 d.k, .int .i64 d.q, .int .i64 d.a, .int .i64 0, v]
def dgR (conn : Int) : List (Dg × Value) → List Value
  | [] => []
  | u :: l => dgC conn u.1 u.2 ++ dgR conn l
theorem dgR_app (conn : Int) (m : List (Dg × Value)) : ∀ l : List (Dg × Value), dgR conn (l ++ m) = dgR conn l ++ dgR conn m
  | [] => rfl
  | u :: l => by show dgC conn u.1 u.2 ++ dgR conn (l ++ m) = (dgC conn u.1 u.2 ++ dgR conn l) ++ dgR conn m; rw [dgR_app conn m l, List.append_assoc]
theorem dgR_len (conn : Int) : ∀ l : List (Dg × Value), (dgR conn l).length = l.length * 6
  | [] => rfl
  | u :: l => by show (dgC conn u.1 u.2 ++ dgR conn l).length = _; rw [List.length_append, dgR_len conn l, List.length_cons]; simp [dgC]; omega
/-- Datas from number q on. -/
def dgD (a : Int) : Nat → List (List Int) → List Dg
  | _, [] => []
  | q, b :: l => ⟨1, (q : Int), a, b⟩ :: dgD a (q + 1) l
theorem dgD_len (a : Int) : ∀ (l : List (List Int)) (q : Nat), (dgD a q l).length = l.length
  | [], _ => rfl
  | _ :: l, q => by show (dgD a (q + 1) l).length + 1 = l.length + 1; rw [dgD_len a l (q + 1)]
def dgZ (a : Int) : Nat → UdL → List (Dg × Value)
  | _, [] => []
  | q, u :: l => (⟨1, (q : Int), a, u.1⟩, u.2) :: dgZ a (q + 1) l
theorem dgZ_fst (a : Int) : ∀ (l : UdL) (q : Nat), (dgZ a q l).map (·.1) = dgD a q (l.map (·.1))
  | [], _ => rfl
  | u :: l, q => by show _ :: (dgZ a (q + 1) l).map (·.1) = _ :: dgD a (q + 1) (l.map (·.1)); rw [dgZ_fst a l (q + 1)]
theorem dgZ_row (conn a : Int) : ∀ (l : UdL) (q : Nat), dgR conn (dgZ a q l) = dgs conn a q (l.map (·.2))
  | [], _ => rfl
  | u :: l, q => by show _ ++ dgR conn (dgZ a (q + 1) l) = _ ++ dgs conn a (q + 1) (l.map (·.2)); rw [dgZ_row conn a l (q + 1)]; rfl
theorem dgZ_mem (a : Int) : ∀ (l : UdL) (q : Nat) (z : Dg × Value), z ∈ dgZ a q l → ∃ u ∈ l, z.1.b = u.1 ∧ z.2 = u.2
  | [], _, z, h => by simp [dgZ] at h
  | u :: l, q, z, h => by
    rcases List.mem_cons.1 (show z ∈ _ :: dgZ a (q + 1) l from h) with h | h
    · rw [h]; exact ⟨u, List.mem_cons_self, rfl, rfl⟩
    · obtain ⟨x, h1, h2⟩ := dgZ_mem a l (q + 1) z h
      exact ⟨x, List.mem_cons_of_mem _ h1, h2⟩
theorem BodyT.one {w : World} {b : List Int} {v : Value} (h : BodyT w b v) : v.oneCell' = true := by obtain ⟨_, _, _, rfl, _⟩ := h; rfl
/-- A row of datagrams of a call's own, bodies too. -/
structure OutL (B0 : Nat) (w : World) (conn : Int) (ds : List Dg) (a : Option Addr) (n c : Nat) (gl : List (Dg × Value)) : Prop where
  eq : gl.map (·.1) = ds
  len : ds.length = n
  own : w.ownsRow B0 40 6 (.slice a n c) n (dgR conn gl)
  bodies : ∀ u ∈ gl, BodyT w u.1.b u.2 ∧ ∀ k, u.2.ownBlock = some k → B0 ≤ k
def OutG (B0 : Nat) (w : World) (conn : Int) (ds : List Dg) (v : Value) : Prop := ∃ a n c gl, v = .slice a n c ∧ OutL B0 w conn ds a n c gl
theorem OutL.keep {B0 : Nat} {w w' : World} {conn : Int} {ds : List Dg} {a : Option Addr} {n c : Nat} {gl : List (Dg × Value)} {G : Nat → Prop} (h : OutL B0 w conn ds a n c gl) (hm : Mod G w w') (hG : ∀ k, (Value.slice a n c).ownBlock = some k → ¬ G k) (hT : ∀ k, k < w.heap.size → G k → NoT w k) : OutL B0 w' conn ds a n c gl :=
  ⟨h.eq, h.len, Own.keep h.own hm hG, fun u hu => ⟨(h.bodies u hu).1.keep hm hT, (h.bodies u hu).2⟩⟩
theorem OutL.ty {B0 : Nat} {w : World} {conn : Int} {ds : List Dg} {a : Option Addr} {n c : Nat} {gl : List (Dg × Value)} (h : OutL B0 w conn ds a n c gl) {k : Nat} (hk : (Value.slice a n c).ownBlock = some k) : TyB w k 40 := TyB.own h.own hk
theorem OutL.one {B0 : Nat} {w : World} {conn : Int} {ds : List Dg} {a : Option Addr} {n c : Nat} {gl : List (Dg × Value)} (h : OutL B0 w conn ds a n c gl) : ∀ u ∈ dgR conn gl, u.oneCell' = true := by
  have : ∀ l : List (Dg × Value), (∀ z ∈ l, z.2.oneCell' = true) → ∀ u ∈ dgR conn l, u.oneCell' = true := by
    intro l
    induction l with
    | nil => intro _ u hu; simp [dgR] at hu
    | cons x l ih =>
      intro h u hu
      rcases List.mem_append.1 (show u ∈ dgC conn x.1 x.2 ++ dgR conn l from hu) with hu | hu
      · simp [dgC] at hu
        rcases hu with rfl | rfl | rfl | rfl | rfl | rfl
        all_goals first | rfl | exact h _ List.mem_cons_self
      · exact ih (fun z hz => h z (List.mem_cons_of_mem _ hz)) u hu
  exact this gl (fun z hz => (h.bodies z hz).1.one)
theorem OutL.low {B0 B1 : Nat} {w : World} {conn : Int} {ds : List Dg} {a : Option Addr} {n c : Nat} {gl : List (Dg × Value)} (h : OutL B0 w conn ds a n c gl) (hb : B1 ≤ B0) : OutL B1 w conn ds a n c gl :=
  ⟨h.eq, h.len, Own.base h.own hb, fun u hu => ⟨(h.bodies u hu).1, fun k hk => Nat.le_trans hb ((h.bodies u hu).2 k hk)⟩⟩
theorem OutL.nil (B0 : Nat) (w : World) (conn : Int) : OutL B0 w conn [] none 0 0 [] := ⟨rfl, rfl, World.ownsRow_nil _ _ _ _, fun u hu => by simp at hu⟩
theorem PayO.out {w0 w : World} {conn ack : Int} {q : Nat} {gs : List (List Int)} {a : Option Addr} {m c : Nat} {gl : UdL} (h : PayO w0 w conn ack q gs a m c gl) : OutL w0.heap.size w conn (dgD ack q gs) a m c (dgZ ack q gl) :=
  ⟨by rw [dgZ_fst, h.eq], by rw [dgD_len]; exact h.len, by rw [dgZ_row]; exact h.own, fun u hu => by
    obtain ⟨z, h1, h2, h3⟩ := dgZ_mem _ _ _ _ hu
    rw [h2, h3]
    exact h.bodies z h1⟩
/-- What Again tells, as datagrams. -/
def againD (x : ChS) (R : Nat) (now : Int) : List Dg := (againE R (dueE x.L now)).map fun id => ⟨1, id, (x.N : Int), (x.bs[(id - (x.F : Int)).toNat]?).getD []⟩
/-- A Channel behind Again. -/
def agS (x : ChS) (B M R : Nat) (now : Int) (o : Bool) : ChS := ⟨x.F, o, x.L.filterMap (dueW B M R now), x.bs, x.N, x.f, x.os⟩
section
variable {w : World} {p sp tp : Nat} {tb : Option Nat} {a : Option Addr} {c : Nat} {us : UdL} {kp kr : Nat} {ao : Option Addr} {co : Nat} {ou : UdL} {W B M R : Nat} {conn : Int} {x : ChS}
theorem chagain_any (h : CHm w p sp tp tb a c us kp kr ao co ou W B M R conn x) (ho : x.o = false) (hL : x.L.length ≤ 100000) (now : Int) (hnow : -1000000000000000000 ≤ now ∧ now ≤ 1000000000000000000) (A O : List Int) (hA : againE R (dueE x.L now) = A) (hO : overE R (dueE x.L now) = O) (nA : Nat) (hnA : A.length = nA) :
    Calls Try.prog 43 #[.pointer (some ⟨sp, 0, none⟩), .int .i64 now] w fun e w' =>
      (if O = [] then (∃ a1 c1, e = .returned (.tuple #[.slice a1 nA c1, .int .i64 0]) ∧ Rd w' 1 (.slice a1 nA c1) nA (A.map (Value.int .i64)) ∧ ∀ k, (Value.slice a1 nA c1).ownBlock = some k → TyB w' k 3) else e = .returned (.tuple #[.slice none 0 0, .int .i64 6]))
      ∧ ∃ tb' a' c', CHm w' p sp tp tb' a' c' us kp kr ao co ou W B M R conn (agS x B M R now (decide (O ≠ []))) ∧ (∀ k, sdF sp tp tb' a' k → sdF sp tp tb a k ∨ w.heap.size ≤ k) ∧ Mod (sdF sp tp tb a) w w' := by
  have hsd := h.sd
  rw [ho] at hsd
  refine (sdagain_any hsd (by omega) now (by omega)).mono ?_
  rintro e w' ⟨he, hq⟩
  obtain ⟨tb', a', c', h1, h2, h3⟩ := h.sent hq
  rw [hO] at he h1
  rw [hA, hnA] at he
  refine ⟨?_, tb', a', c', by rw [h.hb] at h1; exact h1, h2, h3⟩
  by_cases hn : O = []
  · rw [if_pos hn] at he ⊢
    obtain ⟨a1, c1, he, hr⟩ := he
    exact ⟨a1, c1, he, Rd.ofOwn hr, fun k hk => TyB.own hr hk⟩
  · rw [if_neg hn] at he ⊢
    exact he
/-- What Pass leaves and tells. -/
def PassP (p sp tp : Nat) (tb : Option Nat) (a : Option Addr) (kp kr : Nat) (ao : Option Addr) (W B M R : Nat) (conn : Int) (x : ChS) (now : Int) (w : World) (e : Ending) (w' : World) : Prop :=
  if overE R (dueE x.L now) = [] then (∃ v, e = .returned (.tuple #[v, .int .i64 0]) ∧ OutG w.heap.size w' conn (againD x R now ++ dgD (x.N : Int) (x.F + x.bs.length) (x.os.take (payN W (agS x B M R now false)))) v) ∧ ChQ p sp tp tb a kp kr ao W B M R conn (payS (agS x B M R now false) B now (payN W (agS x B M R now false))) w w'
  else e = .returned (.tuple #[.slice none 0 0, .int .i64 6]) ∧ ChQ p sp tp tb a kp kr ao W B M R conn (agS x B M R now true) w w'
set_option maxHeartbeats 8000000 in
theorem chpass_any (h : CHm w p sp tp tb a c us kp kr ao co ou W B M R conn x) (ho : x.o = false) (hos : x.os.length ≤ 1000) (hF : x.F + x.bs.length ≤ 1000000000) (hL : x.L.length ≤ 100000) (hbd : ∀ b ∈ x.os, b.length ≤ 1000000) (hbb : ∀ b ∈ x.bs, b.length ≤ 1000000) (hids : ∀ e ∈ x.L, (x.F : Int) ≤ e.id ∧ e.id < ((x.F + x.bs.length : Nat) : Int)) (now : Int) (hnow : -1000000000000000000 ≤ now ∧ now ≤ 1000000000000000000) :
    Calls Try.prog 18 #[.pointer (some ⟨p, 0, none⟩), .int .i64 now] w fun e w' => PassP p sp tp tb a kp kr ao W B M R conn x now w e w' := by
  obtain ⟨iG, hiG, hzG, hsG, hbG⟩ := info_parts Ch.infoG
  obtain ⟨iI, hiI, hzI, hsI, hbI⟩ := info_parts Ch.infoI
  have hg := chgone_any h
  rw [ho] at hg
  have HG := Lib.hid hg
  obtain ⟨A, hA⟩ : ∃ z, againE R (dueE x.L now) = z := ⟨_, rfl⟩
  obtain ⟨O, hO⟩ : ∃ z, overE R (dueE x.L now) = z := ⟨_, rfl⟩
  obtain ⟨nA, hnA⟩ : ∃ z, A.length = z := ⟨_, rfl⟩
  have hAin : ∀ id ∈ A, ∃ k, ∃ hk : k < x.bs.length, id = (x.F : Int) + (k : Int) := fun id hid => by
    rw [← hA] at hid
    obtain ⟨e, he, rfl⟩ := List.mem_map.1 hid
    have h1 := hids e (List.mem_filter.1 (List.mem_filter.1 he).1).1
    exact ⟨(e.id - (x.F : Int)).toNat, by omega, by omega⟩
  have hAn : nA ≤ 100000 := by
    rw [← hnA, ← hA]
    unfold againE dueE
    rw [List.length_map]
    exact Nat.le_trans (List.length_filter_le _ _) (Nat.le_trans (List.length_filter_le _ _) hL)
  have HAG := Lib.hid (fun W' (m : Mod (fun _ => False) w W') => chagain_any (h.later m) ho hL now hnow A O hA hO nA hnA)
  unfold PassP againD
  rw [hO, hA]
  obtain ⟨y, hy⟩ : ∃ y, agS x B M R now false = y := ⟨_, rfl⟩
  rw [hy]
  have hyp : y.F = x.F ∧ y.o = false ∧ y.bs = x.bs ∧ y.N = x.N ∧ y.os = x.os ∧ y.L.length ≤ 100000 := by rw [← hy]; exact ⟨rfl, rfl, rfl, rfl, rfl, Nat.le_trans (List.length_filterMap_le _ _) hL⟩
  obtain ⟨m, hm⟩ : ∃ z, payN W y = z := ⟨_, rfl⟩
  have hm64 : m ≤ 1000 := by rw [← hm]; unfold payN; rw [hyp.2.2.2.2.1]; split; omega; exact Nat.le_trans (Nat.min_le_right _ _) hos
  rw [hm]
  have d0 := h.blk.cell 0 rfl
  have HH := Lib.hid h
  have HY := Lib.hid hy
  have HYP := Lib.hid hyp
  have HM := Lib.hid hm
  have HAIN := Lib.hid hAin
  have HNA := Lib.hid hnA
  have HX := Lib.hid (⟨hos, hF, hbd, hbb, hnow⟩ : _ ∧ _ ∧ _ ∧ _ ∧ _)
  clear h ho hg hos hF hL hbd hbb hids hnow hA hO hnA hAin hy hyp hm
  by_cases hOn : O = []
  case neg =>
    simp only [if_neg hOn]
    go_enter Try.func18, Try.ntmps18
    go_wp2_with fail
    refine HG.out.mono ?_
    rintro e w' ⟨rfl, rfl⟩
    go_upto_region 3 with fail
    clear HG
    go_wp2_with fail
    refine (HAG.out _ (Mod.refl _ _)).mono ?_
    rintro e w3 ⟨he, tb1, a1, c1, h1, h2, h3⟩
    rw [if_neg hOn] at he
    subst he
    have hd : decide (O ≠ []) = true := by simpa using hOn
    rw [hd] at h1
    have H1 := Lib.hid h1
    have H2 := Lib.hid h2
    have H3 := Lib.hid h3
    clear h1 h2 h3 d0 hd HAG
    go_wp2_with fail
    go_ret2
    refine ⟨rfl, tb1, a1, c1, us, ao, co, ou, H1.out, fun k hk => ?_, H3.out.mono (fun _ _ e => .inr (.inl e))⟩
    rcases hk with e | e | e | e | e
    · exact .inl (.inl e)
    · rcases H2.out k e with g | g
      · exact .inl (.inr (.inl g))
      · exact .inr g
    · exact .inl (.inr (.inr (.inl e)))
    · exact .inl (.inr (.inr (.inr (.inl e))))
    · exact .inl (.inr (.inr (.inr (.inr e))))
  case pos =>
    simp only [if_pos hOn]
    go_enter Try.func18, Try.ntmps18
    go_wp2_with fail
    refine HG.out.mono ?_
    rintro e w' ⟨rfl, rfl⟩
    go_upto_region 3 with fail
    clear HG
    go_wp2_with fail
    refine (HAG.out _ (Mod.refl _ _)).mono ?_
    rintro e w1 ⟨he, tb1, a1, c1, hc1, hn1, hm1⟩
    rw [if_pos hOn] at he
    obtain ⟨aA, cA, rfl, hrA, htyA⟩ := he
    have hd : decide (O ≠ []) = false := by simpa using hOn
    rw [hd, HY.out] at hc1
    clear hd
    have HRA := Lib.hid hrA
    have HTYA := Lib.hid htyA
    have HC1 := Lib.hid hc1
    have HN1 := Lib.hid hn1
    have HM1 := Lib.hid hm1
    have hca : nA ≤ cA := rd_cap hrA
    clear hrA htyA hc1 hn1 hm1 d0 HAG
    go_wp2_with fail
    go_loopw [8, 27] (fun gv iv wr => ∃ (j : Nat) (ag : Option Addr) (cg : Nat) (gl : List (Dg × Value)), gv = .slice ag j cg ∧ iv = .int .i64 (j : Int) ∧ j ≤ nA ∧ OutL w1.heap.size wr conn ((A.take j).map (fun id => (⟨1, id, (x.N : Int), (x.bs[(id - (x.F : Int)).toNat]?).getD []⟩ : Dg))) ag j cg gl ∧ Mod (fun _ => False) w1 wr) (fun gv _ _ => nA - lenS gv)
    case atStart => exact ⟨0, none, 0, [], rfl, rfl, Nat.zero_le _, OutL.nil _ _ _, Mod.refl _ _⟩
    case round =>
      obtain ⟨j, ag, cg, gl, rfl, rfl, hj, hol, hmo⟩ := hrel
      obtain ⟨wo, hwo⟩ : ∃ y : World, y = wr := ⟨_, rfl⟩
      subst hwo
      have hco := HC1.out.later hmo
      have HOL := Lib.hid hol
      have HMO := Lib.hid hmo
      have HCO := Lib.hid hco
      clear hol hmo hco
      by_cases hjl : j < nA
      case pos =>
        have z0 : decide ((j : Int) < (nA : Int)) = true := by simp; omega
        have hjA : j < A.length := by rw [HNA.out]; exact hjl
        obtain ⟨id, hid⟩ : ∃ z, A[j] = z := ⟨_, rfl⟩
        obtain ⟨k, hk, hidk⟩ := HAIN.out id (by rw [← hid]; exact List.getElem_mem hjA)
        have hrd := HRA.out.keep HMO.out (fun _ _ e => e)
        obtain ⟨xb, xo, hpx, _⟩ := hrd.place (j := j) hjl
        have hel := hrd.elem (j := j) (u := .int .i64 id) (by rw [List.getElem?_map, List.getElem?_eq_getElem hjA, hid]; rfl)
        rw [hpx] at hel
        have hix := fun wx => run_indexS (P := Try.prog) wx 70 3 iI 1 Try.underlying70 hiI hsI aA nA cA j hjl (hrd.some_ (by omega))
        rw [hpx] at hix
        have hkl : k < y.bs.length := by rw [HYP.out.2.2.1]; exact hk
        have hbk : y.bs[k]'hkl = x.bs[k] := by simp only [HYP.out.2.2.1]
        have hbx : (x.bs[k]).length ≤ 1000000 := HX.out.2.2.2.1 _ (List.getElem_mem hk)
        obtain ⟨ub, hub⟩ : ∃ z, x.bs[k] = z := ⟨_, rfl⟩
        rw [hub] at hbx hbk
        have hdt := chdata_any HCO.out (by rw [HYP.out.1]; have := HX.out.2.1; omega) k hkl (by rw [hbk]; omega) id (by rw [HYP.out.1]; exact hidk)
        rw [hbk, HYP.out.2.2.2.1] at hdt
        unfold dgV at hdt
        have HDT := Lib.hid hdt
        have hget : (x.bs[(id - (x.F : Int)).toNat]?).getD [] = ub := by rw [hidk, show ((x.F : Int) + (k : Int) - (x.F : Int)).toNat = k by omega, List.getElem?_eq_getElem hk, hub]; rfl
        have HGET := Lib.hid hget
        have HID := Lib.hid hid
        clear hdt hbk hkl hpx hrd hget hidk hid hub
        go_wp2_with fail
        refine HDT.out.mono ?_
        rintro e w6 ⟨v, rfl, hf6, ⟨va, vc, rfl⟩, hm6⟩
        have hpo6 := HOL.out.keep hm6 (fun _ _ e => e) (fun _ _ e => e.elim)
        have hoa := fun o => Own.base (Own.keep hpo6.own (Mod.alloc (fun _ => False) w6 o) (fun _ _ e => e)) (Nat.zero_le _)
        have hj1 : j + 1 ≤ maxLen := by unfold maxLen; omega
        have HP6 := Lib.hid hpo6
        have HF6 := Lib.hid hf6
        have HM6 := Lib.hid hm6
        clear hpo6 hf6 hm6 HDT hix hel
        go_wp2_with (first | (at_builtin; refine wpList_append_any rfl (.tmp 31) (.tmp 35) 36 rfl 40 iG (.agg #[.int .i64 0, .int .i64 0, .int .i64 0, .int .i64 0, .int .i64 0, .slice none 0 0]) 6 64 Try.underlying36 hiG hzG hsG hbG rfl (by decide) _ j (dgR conn gl) rfl (hoa _) _ 1 [.int .i64 conn, .int .i64 1, .int .i64 id, .int .i64 (x.N : Int), .int .i64 0, .slice va ub.length vc] rfl (Rd.litN _ _ _ _ _ 1 rfl rfl (by decide)) (by intro u hu; simp at hu; rcases hu with rfl | rfl | rfl | rfl | rfl | rfl <;> rfl) hj1 (by omega) ?_; intro v7 w7 hap; obtain ⟨a7, c7, rfl⟩ := hap.form; have HAP := Lib.hid hap; clear hap hoa))
        have hal : Mod (fun _ => False) w6 (w6.alloc (.cells #[.int .i64 conn, .int .i64 1, .int .i64 id, .int .i64 (x.N : Int), .int .i64 0, .slice va ub.length vc] 40)) := Mod.alloc _ _ _
        have hpA := HP6.out.keep hal (fun _ _ e => e) (fun _ _ e => e.elim)
        have hgr : ∀ k, (Value.slice ag j cg).ownBlock = some k → TyB (w6.alloc (.cells #[.int .i64 conn, .int .i64 1, .int .i64 id, .int .i64 (x.N : Int), .int .i64 0, .slice va ub.length vc] 40)) k 40 := fun k hk => hpA.ty hk
        have hTg : ∀ k, k < (w6.alloc (.cells #[.int .i64 conn, .int .i64 1, .int .i64 id, .int .i64 (x.N : Int), .int .i64 0, .slice va ub.length vc] 40)).heap.size → (Value.slice ag j cg).ownBlock = some k → NoT (w6.alloc (.cells #[.int .i64 conn, .int .i64 1, .int .i64 id, .int .i64 (x.N : Int), .int .i64 0, .slice va ub.length vc] 40)) k := fun k _ hk => (hgr k hk).noT (by decide)
        have hszA : w1.heap.size ≤ (w6.alloc (.cells #[.int .i64 conn, .int .i64 1, .int .i64 id, .int .i64 (x.N : Int), .int .i64 0, .slice va ub.length vc] 40)).heap.size := by have h0 := HMO.out.size; have h1 := HM6.out.size; have h2 := hal.size; omega
        have hlo7 := HAP.out.low hszA (fun k hk => (HOL.out.own.lt k hk).1)
        have ho7 := Own.rebase HAP.out.own hlo7
        have hbv : BodyT w7 ub (.slice va ub.length vc) := by
          have h1 : BodyT w6 ub (.slice va ub.length vc) := ⟨va, _, vc, rfl, rfl, Own.base HF6.out (Nat.zero_le _)⟩
          exact (h1.keep hal (fun _ _ e => e.elim)).keep HAP.out.mod hTg
        have hbn : ∀ k, (Value.slice va ub.length vc).ownBlock = some k → w1.heap.size ≤ k := fun k hk => by have h1 := (World.ownsRow.lt HF6.out k hk).1; have h0 := HMO.out.size; omega
        have hpo7 : OutL w1.heap.size w7 conn ((A.take (j + 1)).map (fun id => (⟨1, id, (x.N : Int), (x.bs[(id - (x.F : Int)).toNat]?).getD []⟩ : Dg))) a7 (j + 1) c7 (gl ++ [(⟨1, id, (x.N : Int), ub⟩, .slice va ub.length vc)]) := by
          refine ⟨?_, by rw [List.length_map, List.length_take, Nat.min_eq_left (by rw [HNA.out]; omega)], by rw [dgR_app]; exact ho7, fun u hu => ?_⟩
          · rw [List.map_append, HOL.out.eq, List.take_succ_eq_append_getElem hjA, List.map_append, HID.out]
            refine congrArg (fun z => _ ++ [z]) ?_
            show (⟨1, id, (x.N : Int), ub⟩ : Dg) = ⟨1, id, (x.N : Int), _⟩
            rw [HGET.out]
          · rcases List.mem_append.1 hu with hu | hu
            · exact ⟨((hpA.bodies u hu).1).keep HAP.out.mod hTg, (hpA.bodies u hu).2⟩
            · rw [List.mem_singleton] at hu
              rw [hu]
              exact ⟨hbv, hbn⟩
        have hm7 : Mod (fun _ => False) w1 w7 := ((HMO.out.of2 HM6.out).of2 hal).old HAP.out.mod (fun k hk => (HOL.out.own.lt k hk).1)
        have HP7 := Lib.hid hpo7
        have HM7 := Lib.hid hm7
        clear hal hpA hgr hTg hszA hlo7 ho7 hbv hbn hpo7 hm7
        have hwj : IntKind.i64.wrap ((j : Int) + 1) = ((j + 1 : Nat) : Int) := by rw [IntWalk.i64_in _ (by omega)]; omega
        go_wp2_with fail
        go_roundw
        case rel => exact ⟨j + 1, a7, c7, _, rfl, rfl, by omega, HP7.out, HM7.out⟩
        case measure => simp [lenS]; omega
      case neg =>
        obtain rfl : j = nA := by omega
        have z0 : decide ((j : Int) < (j : Int)) = false := by simp
        have hyp := HYP.out
        have hpay := chpay_any HCO.out (by rw [hyp.1]; have := HX.out.2.1; omega) (by rw [hyp.2.2.2.2.1]; exact HX.out.1) hyp.2.2.2.2.2 (by rw [hyp.2.2.2.2.1]; exact HX.out.2.2.1) now HX.out.2.2.2.2
        unfold PayP at hpay
        rw [HM.out] at hpay
        have HPAY := Lib.hid hpay
        clear hpay hyp
        go_wp2_with fail
        refine HPAY.out.mono ?_
        rintro e w8 ⟨ap, cp, gp, rfl, hpo, hq⟩
        have hmq : Mod (chF p sp tp tb1 a1 kp kr ao) wo w8 := by obtain ⟨_, _, _, _, _, _, _, _, _, hm⟩ := hq; exact hm
        have hol8 := HOL.out.keep hmq (fun k hk e => HCO.out.gram (HOL.out.ty hk) e) (fun k _ e => HCO.out.noT e)
        have hpol := hpo.out
        have hrd8 := Rd.ofOwn hpol.own
        have h1c := hpol.one
        have hmx1 : j + m ≤ maxLen := by unfold maxLen; omega
        have hmx2 : (j + m) * 64 ≤ 140737488355328 := by omega
        have hob := Own.base hol8.own (Nat.zero_le _)
        have HPO := Lib.hid hpol
        have HQ := Lib.hid hq
        have HOL8 := Lib.hid hol8
        have HMQ := Lib.hid hmq
        clear hpo hpol hq hol8 hmq
        go_wp2_with (first | (at_builtin; refine wpList_append_any rfl (.tmp 38) (.tmp 41) 36 rfl 40 iG (.agg #[.int .i64 0, .int .i64 0, .int .i64 0, .int .i64 0, .int .i64 0, .slice none 0 0]) 6 64 Try.underlying36 hiG hzG hsG hbG rfl (by decide) _ j (dgR conn gl) rfl hob _ m _ rfl hrd8 h1c hmx1 hmx2 ?_; intro v9 w9 hap; obtain ⟨a9, c9, rfl⟩ := hap.form; have HAP := Lib.hid hap; clear hap))
        (try go_wp2_with fail)
        go_ret2
        have hty8 : ∀ k, (Value.slice ag j cg).ownBlock = some k → TyB w8 k 40 := fun k hk => HOL8.out.ty hk
        have hT9 : ∀ k, k < w8.heap.size → (Value.slice ag j cg).ownBlock = some k → NoT w8 k := fun k _ hk => (hty8 k hk).noT (by decide)
        have hs1 : w.heap.size ≤ w1.heap.size := by exact HM1.out.size
        have hso := HMO.out.size
        have hs8 := HMQ.out.size
        have hlo9 := HAP.out.low (B := w.heap.size) (by omega) (fun k hk => by have := (HOL.out.own.lt k hk).1; omega)
        have ho9 := Own.rebase HAP.out.own hlo9
        have hmd1 : Mod (chF p sp tp tb a kp kr ao) w wo := (HM1.out.mono (fun _ _ e => .inr (.inl e)) : Mod (chF p sp tp tb a kp kr ao) w w1).trans HMO.out (fun _ _ e => e) (fun _ _ e => e.elim)
        have hn : ∀ k, chF p sp tp tb1 a1 kp kr ao k → chF p sp tp tb a kp kr ao k ∨ w.heap.size ≤ k := fun k hk => by
          rcases hk with e | e | e | e | e
          · exact .inl (.inl e)
          · rcases HN1.out k e with g | g
            · exact .inl (.inr (.inl g))
            · exact .inr g
          · exact .inl (.inr (.inr (.inl e)))
          · exact .inl (.inr (.inr (.inr (.inl e))))
          · exact .inl (.inr (.inr (.inr (.inr e))))
        have hq8 : ChQ p sp tp tb a kp kr ao W B M R conn (payS y B now m) w w8 := HQ.out.after hn hmd1
        obtain ⟨tb4, a4, c4, us4, ao4, co4, ou4, j1, j2, j3⟩ := hq8
        have hq9 : ChQ p sp tp tb a kp kr ao W B M R conn (payS y B now m) w w9 := ⟨tb4, a4, c4, us4, ao4, co4, ou4, j1.keep HAP.out.mod (fun k hk e => j1.gram (hty8 k e) hk) hT9, j2, j3.trans HAP.out.mod (fun _ _ e => e) (fun k hk e => by have := (HOL.out.own.lt k e).1; omega)⟩
        refine ⟨⟨_, rfl, a9, j + m, c9, gl ++ dgZ (y.N : Int) (y.F + y.bs.length) gp, by first | rfl | simp, ?_, ?_, ?_, fun u hu => ?_⟩, hq9⟩
        · rw [List.map_append, HOL8.out.eq, HPO.out.eq, HYP.out.2.2.2.1, HYP.out.1, HYP.out.2.2.1, HYP.out.2.2.2.2.1, List.take_of_length_le (Nat.le_of_eq HNA.out)]
        · have h1 := HPO.out.len
          rw [List.length_append, List.length_map, HNA.out]
          rw [HYP.out.2.2.2.1, HYP.out.1, HYP.out.2.2.1, HYP.out.2.2.2.2.1] at h1
          rw [h1]
        · rw [dgR_app]; exact ho9
        · rcases List.mem_append.1 hu with hu | hu
          · exact ⟨((HOL8.out.bodies u hu).1).keep HAP.out.mod hT9, fun k hk => Nat.le_trans hs1 ((HOL8.out.bodies u hu).2 k hk)⟩
          · exact ⟨((HPO.out.bodies u hu).1).keep HAP.out.mod hT9, fun k hk => Nat.le_trans (by omega) ((HPO.out.bodies u hu).2 k hk)⟩
end
end Go.Proofs.Ytdahoecejnnjkaa
