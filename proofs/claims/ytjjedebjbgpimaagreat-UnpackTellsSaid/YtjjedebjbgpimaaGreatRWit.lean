/- The document's own answer whether there is another way, by contract. -/
import Derived.Test.YtjjedebjbgpimaaGreatWit4
import Derived.Test.YtjjedebjbgpimaaGreatRN5
import Derived.Test.YtjjedebjbgpimaaGreatWRef
import Derived.StillTailTactics
namespace Go.Proofs.YtjjedebjbgpimaaGreat
open Go.RowKit Mile
set_option maxRecDepth 100000
abbrev bigM : Int := 1000000000000000
theorem nf_end {X : Web} {d : List Int} {mo tv st : Int} {T : List Nat} {S : List It} {pend : Nat → Nat → Prop} (h : Ord X d bigM T S pend) (hn : ∀ t ∈ T, (t : Int) ≠ tv) (hl : st ≤ (T.length : Int)) : foundB d tv mo st = false :=
  decide_eq_false (fun ⟨h1, h2, h3, h4⟩ => by
    have hT : tv.toNat ∉ T := fun x => hn _ x (by omega)
    have := h.rank_ge hT h2
    omega)
theorem nf_done {X : Web} {d : List Int} {mo tv st : Int} {T : List Nat} (h : Ord X d bigM T [] (fun _ _ => False)) (hf : Fix X d) (htop : ∀ e, dAt d e ≤ 562949953421312) (hn : ∀ t ∈ T, (t : Int) ≠ tv) : foundB d tv mo st = false :=
  decide_eq_false (fun ⟨h1, h2, _, _⟩ => by
    have h5 := htop tv.toNat
    have := h.done hf tv.toNat h2 (by show _ ≤ (1000000000000000 : Int); omega)
    exact hn _ this (by omega))
theorem found_here {X : Web} {d : List Int} {mo st : Int} {T : List Nat} {S : List It} {pend : Nat → Nat → Prop} {v : Nat} (h : Ord X d bigM (T ++ [v]) S pend) (hl : ∀ t ∈ T, ahead d t v) (hst : (T.length : Int) < st) : foundB d (v : Int) mo st = decide (dAt d v ≤ mo) := by
  have h1 := (h.t v (by simp)).1
  have h2 := h.rank_eq hl
  unfold foundB
  rw [Int.toNat_natCast]
  apply decide_eq_decide.2
  exact ⟨fun h => h.2.2.1, fun h => ⟨by omega, h1, h, by omega⟩⟩
def dnL (n : Nat) (T : List Nat) : List Bool := (List.range n).map fun v => decide (v ∈ T)
theorem dnL_nil (n : Nat) : dnL n [] = List.replicate n false := by
  apply List.ext_getElem (by simp [dnL])
  intro i h1 h2
  simp [dnL]
theorem dnL_len (n : Nat) (T : List Nat) : (dnL n T).length = n := by simp [dnL]
theorem dnL_at {n : Nat} {T : List Nat} {i : Nat} (h : i < (dnL n T).length) : (dnL n T)[i] = decide (i ∈ T) := by simp [dnL]
theorem dnL_set {n v : Nat} {T : List Nat} : (dnL n T).set v true = dnL n (T ++ [v]) := by
  apply List.ext_getElem (by simp [dnL])
  intro i h1 h2
  rw [List.getElem_set, dnL_at, dnL_at]
  by_cases hc : v = i
  · subst hc; simp
  · rw [if_neg hc]
    have : i ≠ v := fun e => hc e.symm
    simp [this]
def RWin (w W : World) (hb rd n : Nat) (Z : Nat → Prop) (T : List Nat) (S : List It) (G : Nat → Prop) : Prop :=
  MHO W hb S G ∧ (∀ k, G k → w.heap.size ≤ k ∧ ¬ Z k) ∧ (∀ k, Z k → k < W.heap.size) ∧ World.ownsRow W 0 4 1 (.slice (some ⟨rd, 0, none⟩) n n) n ((dnL n T).map Value.bool) ∧ Z rd ∧ Mod (fun _ => False) w W
section
variable {w W W' : World} {hb rd n : Nat} {Z : Nat → Prop} {T : List Nat} {S S' : List It} {G G' : Nat → Prop}
theorem RWin.later (h : RWin w W hb rd n Z T S G) (hm : Mod (fun _ => False) W W') : RWin w W' hb rd n Z T S G :=
  ⟨h.1.keep hm (fun _ _ e => e), h.2.1, fun k hk => Nat.lt_of_lt_of_le (h.2.2.1 k hk) hm.size, Own.keep h.2.2.2.1 hm (fun _ _ e => e), h.2.2.2.2.1, h.2.2.2.2.2.of2 hm⟩
theorem RWin.guest (h : RWin w W hb rd n Z T S G) (hm : Mod (fun _ => False) W W') {P : Nat → Prop} (hP : ∀ k, P k → W.heap.size ≤ k ∧ k < W'.heap.size) : RWin w W' hb rd n (fun k => Z k ∨ P k) T S G := by
  have h2 := h.later hm
  obtain ⟨v, g1, g2, g3, g4, g5, g6⟩ := h.1
  exact ⟨h2.1, fun k hk => ⟨(h.2.1 k hk).1, fun e => e.elim (h.2.1 k hk).2 (fun e => by have := g5 k hk; have := (hP k e).1; omega)⟩, fun k hk => hk.elim (h2.2.2.1 k) (fun e => (hP k e).2), h2.2.2.2.1, .inl h.2.2.2.2.1, h2.2.2.2.2.2⟩
theorem RWin.less (h : RWin w W hb rd n Z T S G) {Z' : Nat → Prop} (hz : ∀ k, Z' k → Z k) (hr : Z' rd) : RWin w W hb rd n Z' T S G :=
  ⟨h.1, fun k hk => ⟨(h.2.1 k hk).1, fun e => (h.2.1 k hk).2 (hz k e)⟩, fun k hk => h.2.2.1 k (hz k hk), h.2.2.2.1, hr, h.2.2.2.2.2⟩
theorem RWin.aft (h : RWin w W hb rd n Z T S G) (ho : MHO W' hb S' G') (ha : Aft W W' G G') : RWin w W' hb rd n Z T S' G' :=
  ⟨ho, fun k hk => (ha.2 k hk).elim (h.2.1 k) (fun e => ⟨Nat.le_trans h.2.2.2.2.2.size e, fun hz => by have := h.2.2.1 k hz; omega⟩), fun k hk => Nat.lt_of_lt_of_le (h.2.2.1 k hk) ha.1.size,
   Own.keep h.2.2.2.1 ha.1 (fun k hk e => by have e2 : rd = k := Option.some.inj hk; exact (h.2.1 k e).2 (by rw [← e2]; exact h.2.2.2.2.1)), h.2.2.2.2.1, h.2.2.2.2.2.trans ha.1 (fun _ _ e => e) (fun k hk e => by have := (h.2.1 k e).1; omega)⟩
theorem RWin.put (h : RWin w W hb rd n Z T S G) {v : Nat} (hv : v < n) (hrd : w.heap.size ≤ rd) : RWin w (W.setCell ⟨rd, v, none⟩ (.bool true)) hb rd n Z (T ++ [v]) S G := by
  have hms : Mod (fun i => i = rd) W (W.setCell ⟨rd, v, none⟩ (.bool true)) := Mod.setCell _ _ _ rfl
  have hst := (h.2.2.2.1.stored v (.bool true)).1
  rw [← List.map_set, dnL_set] at hst
  exact ⟨h.1.keep hms (fun k hk e => (h.2.1 k hk).2 (by have e2 : k = rd := e; rw [e2]; exact h.2.2.2.2.1)), h.2.1, fun k hk => Nat.lt_of_lt_of_le (h.2.2.1 k hk) hms.size, hst, h.2.2.2.2.1, h.2.2.2.2.2.trans hms (fun _ _ e => e) (fun k hk e => by have e2 : k = rd := e; omega)⟩
theorem RWin.done_at (h : RWin w W hb rd n Z T S G) {i : Nat} (hi : i < n) : W.cell? ⟨rd, i, none⟩ = some (.bool (decide (i ∈ T))) := by
  have hl := dnL_len n T
  have := (Rd.ofOwn h.2.2.2.1).at_ (i := i) (u := .bool (decide (i ∈ T))) (by rw [List.getElem?_map, List.getElem?_eq_getElem (by omega), dnL_at]; rfl)
  simpa using this
end
theorem own_ixb (iI : TypeInfo) (hiI : Tryz.prog.info? 4 = some iI) (hsI : iI.size = 1) (rb m i : Nat) (hi : i < m) (wx : World) : (Instr.indexAt 48 (.slice (some ⟨rb, 0, none⟩) m m) (.int .i64 (i : Int))).run Tryz.prog wx = .ok (.pointer (some ⟨rb, i, none⟩)) wx := by
  have h := run_indexS (P := Tryz.prog) wx 48 4 iI 1 Tryz.underlying48 hiI hsI (some ⟨rb, 0, none⟩) m m i hi (by simp)
  have hp := (show elemA (some ⟨rb, 0, none⟩) i 1 = ⟨rb, i, none⟩ by unfold elemA; rw [Option.getD_some, Addr.add_lit, Nat.zero_add, Nat.mul_one])
  rw [hp] at h; exact h
theorem Nt.infoBo : (Tryz.prog.info? 4).map (fun i => (i.zero, i.size, i.bytes)) = some (some (.bool false), 1, 1) := by kernel_rfl
theorem out_range {n : Nat} {L : List Ar} {fr wo : Int} {d : List Int} (hf : Fix (netW n L fr wo) d) (tv mo st : Int) (h : ¬ (0 ≤ tv ∧ tv ≤ (n : Int) - 1)) : foundB d tv mo st = false :=
  decide_eq_false (fun ⟨h1, h2, _⟩ => by
    have h3 := dAt_in h2
    rw [hf.len] at h3
    have h4 : tv.toNat < n := h3
    omega)
def WtR (b : Bool) (w : World) (e : Ending) (w' : World) : Prop := e = .returned (.bool b) ∧ Mod (fun _ => False) w w'
set_option maxHeartbeats 16000000 in
theorem rn_wit {w : World} {q n : Nat} {L : List Ar} (h : RN w q n L) (hok : NetOk n L) (hw : ∀ a ∈ L, a.w ≤ 1099511627776) (h512 : n ≤ 512) (hb : L.length ≤ 10000) (fr tv wo mo st : Int) (d : List Int) (hf : Fix (netW n L fr wo) d) :
    Calls Tryz.prog 114 #[.pointer (some ⟨q, 0, none⟩), .int .i64 fr, .int .i64 tv, .int .i64 wo, .int .i64 mo, .int .i64 st] w (WtR (foundB d tv mo st) w) := by
  obtain ⟨iB, hiB, hzB, hsB, hbB⟩ := info_parts Nt.infoBo
  obtain ⟨iA, hiA, hzA, hsA, hbA⟩ := info_parts Nt.infoA
  have HRN := Lib.hid h
  obtain ⟨a, c, hblk, _, _⟩ := h
  have q0 := hblk.cell 0 rfl
  have HB := Lib.hid hblk
  have hsub : IntKind.i64.wrap ((n : Int) - 1) = (n : Int) - 1 := IntWalk.i64_in _ (by omega)
  have htop := netW_top h512 hf
  have HTOP := Lib.hid htop
  have HOK := Lib.hid hok
  have HW := Lib.hid hw
  have HF := Lib.hid hf
  have HLB := Lib.hid hb
  clear hblk hok hw hf htop hb
  by_cases c1 : 0 ≤ fr ∧ fr ≤ (n : Int) - 1
  case neg =>
    have hno : foundB d tv mo st = false := found_none HF.out (fun e he hm => c1 (by have h1 : (e : Int) = fr := he.1; have h2 : e < n := hm; omega)) tv mo st
    rw [hno]
    clear hno
    go_enter Tryz.func114, Tryz.ntmps114
    go_wp2_with fail
    refine (rnw_any fr 0 ((n : Int) - 1) _).mono ?_
    rintro e w2 ⟨rfl, rfl⟩
    rw [decide_eq_false c1]
    go_wp2_with fail
    go_ret
    exact ⟨rfl, Mod.refl _ _⟩
  case pos =>
  by_cases c2 : 0 ≤ tv ∧ tv ≤ (n : Int) - 1
  case neg =>
    have hno := out_range HF.out tv mo st c2
    rw [hno]
    clear hno
    go_enter Tryz.func114, Tryz.ntmps114
    go_wp2_with fail
    refine (rnw_any fr 0 ((n : Int) - 1) _).mono ?_
    rintro e w2 ⟨rfl, rfl⟩
    rw [decide_eq_true c1]
    go_wp2_with fail
    refine (rnw_any tv 0 ((n : Int) - 1) _).mono ?_
    rintro e w2 ⟨rfl, rfl⟩
    rw [decide_eq_false c2]
    go_wp2_with fail
    go_ret
    exact ⟨rfl, Mod.refl _ _⟩
  case pos =>
  by_cases c3 : fr = wo
  case pos =>
    have hno : foundB d tv mo st = false := found_none HF.out (fun e he hm => he.2 c3) tv mo st
    rw [hno]
    have z3 : (fr == wo) = true := beq_iff_eq.2 c3
    clear hno c3
    go_enter Tryz.func114, Tryz.ntmps114
    go_wp2_with fail
    refine (rnw_any fr 0 ((n : Int) - 1) _).mono ?_
    rintro e w2 ⟨rfl, rfl⟩
    rw [decide_eq_true c1]
    go_wp2_with fail
    refine (rnw_any tv 0 ((n : Int) - 1) _).mono ?_
    rintro e w2 ⟨rfl, rfl⟩
    rw [decide_eq_true c2]
    go_wp2_with fail
    go_ret
    exact ⟨rfl, Mod.refl _ _⟩
  case neg =>
  have z3 : (fr == wo) = false := beq_eq_false_iff_ne.2 c3
  obtain ⟨f, rfl⟩ := Int.eq_ofNat_of_zero_le c1.1
  have hfn : f < n := by omega
  have hord : Ord (netW n L (f : Int) wo) d bigM [] [((f : Int), 0)] (fun _ _ => False) := by
    have := Ord.begin (mo := bigM) HF.out hfn (fun e => ⟨fun h => by have h1 : (e : Int) = (f : Int) := h.1; omega, fun h => ⟨by omega, c3⟩⟩)
    rw [if_neg (by decide)] at this; exact this
  have hpush : pushS [] (f : Int) 0 = (true, [((f : Int), 0)]) := rfl
  have HORD := Lib.hid hord
  obtain ⟨hb, hhb⟩ : ∃ y, w.heap.size = y := ⟨_, rfl⟩
  obtain ⟨w1, hw1⟩ : ∃ y, w.alloc (.cells #[.slice none 0 0] 171) = y := ⟨_, rfl⟩
  have hm1 : Mod (fun _ => False) w w1 := by rw [← hw1]; exact Mod.alloc _ _ _
  have hmh : MHO w1 hb [] (fun k => k = hb) := by rw [← hw1]; exact MHO.new w hb hhb.symm
  have HMH := Lib.hid hmh
  have HM1 := Lib.hid hm1
  have HHB := Lib.hid hhb
  have HC := Lib.hid (And.intro c2 c3)
  clear hord hm1 hmh
  go_enter Tryz.func114, Tryz.ntmps114
  go_wp2_with fail
  refine (rnw_any (f : Int) 0 ((n : Int) - 1) _).mono ?_
  rintro e w2 ⟨rfl, rfl⟩
  rw [decide_eq_true c1]
  go_wp2_with fail
  refine (rnw_any tv 0 ((n : Int) - 1) _).mono ?_
  rintro e w2 ⟨rfl, rfl⟩
  rw [decide_eq_true c2]
  clear c1 c2 c3
  go_wp2_with fail
  (try rw [hw1])
  (try rw [hhb])
  clear hw1 hhb
  refine (rpush_any hb w1 [] _ HMH.out List.Pairwise.nil List.Pairwise.nil (by simp) (f : Int) 0 (wfI _ (by omega)) (by decide)).mono ?_
  rintro e w3 ⟨rfl, G, hmh, ha⟩
  rw [hpush] at hmh
  rw [hpush]
  have hm3 : Mod (fun _ => False) w w3 := HM1.out.trans ha.1 (fun _ _ e => e) (fun k hk e => by have e2 : k = hb := e; have := HHB.out; omega)
  have hG3 : ∀ k, G k → w.heap.size ≤ k ∧ k < w3.heap.size := fun k hk => ⟨(ha.2 k hk).elim (fun e => by have e2 : k = hb := e; have := HHB.out; omega) (fun e => by have := HM1.out.size; omega), by obtain ⟨v, _, _, _, _, g5, _⟩ := hmh; exact g5 k hk⟩
  have q0 := (HB.out.keep hm3 (fun e => e)).cell 0 rfl
  have hmk := run_makeS (P := Tryz.prog) 48 4 iB (.bool false) Tryz.underlying48 hiB hzB rfl hsB n (by rw [hbB]; omega) (by omega) w3
  have ho0 := own_zrow w3 4 (.bool false) n w3.heap.size rfl (by omega)
  obtain ⟨rd, hrd⟩ : ∃ b, w3.heap.size = b := ⟨_, rfl⟩
  obtain ⟨w4, hw4⟩ : ∃ W, w3.alloc (.cells (zrow (.bool false) n) 4) = W := ⟨_, rfl⟩
  have hm4 : Mod (fun _ => False) w3 w4 := by rw [← hw4]; exact Mod.alloc _ _ _
  rw [hw4, hrd] at hmk ho0
  have hs4 : w4.heap.size = rd + 1 := by rw [← hw4, ← hrd]; exact heap_size_alloc _ _
  have hrdw : w.heap.size ≤ rd := by have := hm3.size; omega
  have hwin : RWin w w4 hb rd n (fun k => k = rd) [] [((f : Int), 0)] G := ⟨hmh.keep hm4 (fun _ _ e => e), fun k hk => ⟨(hG3 k hk).1, fun e => by have e2 : k = rd := e; have := (hG3 k hk).2; omega⟩, fun k hk => by have e2 : k = rd := hk; omega, by rw [dnL_nil, List.map_replicate]; exact ho0, rfl, hm3.of2 hm4⟩
  have HWIN := Lib.hid hwin
  have HRW := Lib.hid hrdw
  clear hmh ha hm3 hG3 ho0 hrd hw4 hm4 hs4 hwin hrdw
  go_wp2_with fail
  clear hmk q0
  go_loopw [15] (fun i wr => ∃ (T : List Nat) (S : List It) (G : Nat → Prop), i = .int .i64 (T.length : Int) ∧ RWin w wr hb rd n (fun k => k = rd) T S G ∧ (Srt S ∧ Ids S) ∧ Ord (netW n L (f : Int) wo) d bigM T S (fun _ _ => False) ∧ ∀ t ∈ T, (t : Int) ≠ tv) (fun i _ => n + 1 - (intOf i).toNat)
  case atStart => exact ⟨[], [((f : Int), 0)], G, rfl, HWIN.out, (by have := pushS_ok (S := []) List.Pairwise.nil List.Pairwise.nil (f : Int) 0; rw [hpush] at this; exact this), HORD.out, fun _ h => (by cases h)⟩
  case round =>
    obtain ⟨T, S, G, rfl, hwin, hsi0, hord, hnt⟩ := hrel
    obtain ⟨W, hW⟩ : ∃ x : World, x = wr := ⟨_, rfl⟩
    subst hW
    have htl : T.length ≤ n := ord_tlen hord HF.out
    obtain ⟨i, hi⟩ : ∃ i, T.length = i := ⟨_, rfl⟩
    rw [hi] at htl ⊢
    have HI := Lib.hid hi
    have HWIN := Lib.hid hwin
    have HORD := Lib.hid hord
    have HNT := Lib.hid hnt
    have HSI := Lib.hid hsi0
    clear hi hwin hord hnt hsi0
    by_cases his : (i : Int) < st
    case neg =>
      have z0 : decide ((i : Int) < st) = false := decide_eq_false his
      have hno : foundB d tv mo st = false := nf_end HORD.out HNT.out (by rw [HI.out]; omega)
      have HNO := Lib.hid hno
      clear hno his
      go_wp2_with fail
      go_ret
      exact ⟨by rw [HNO.out]; rfl, HWIN.out.2.2.2.2.2⟩
    case pos =>
      have z0 : decide ((i : Int) < st) = true := decide_eq_true his
      have HIS := Lib.hid his
      have hpop := Lib.hid (rpop_any hb W S G HWIN.out.1)
      clear his
      go_wp2_with fail
      refine hpop.out.mono ?_
      cases S with
      | nil =>
        rintro e w5 ⟨rfl, hmh, hm⟩
        have hno : foundB d tv mo st = false := nf_done HORD.out HF.out HTOP.out HNT.out
        have HNO := Lib.hid hno
        have hm5 : Mod (fun _ => False) w w5 := HWIN.out.2.2.2.2.2.trans hm (fun _ _ e => e) (fun k hk e => by have := (HWIN.out.2.1 k e).1; omega)
        clear hno hmh hm
        go_wp2_with fail
        go_ret
        exact ⟨by rw [HNO.out]; rfl, hm5.of2 (Mod.alloc _ _ _)⟩
      | cons x S =>
        rintro e w5 ⟨rfl, hmh, hm⟩
        obtain ⟨v, hv, hvn, hvT, h0v, hxe, hord⟩ := HORD.out.pop HF.out HSI.out.1 HSI.out.2
        have hah : ∀ t ∈ T, ahead d t v := fun t ht => HORD.out.low t ht v hvT h0v
        replace hvn : v < n := hvn
        obtain ⟨x1, x2⟩ := x
        simp only at hv hxe
        simp only
        subst hv
        have hkt := HTOP.out v
        rw [← hxe] at h0v hkt
        have hwin5 := HWIN.out.aft hmh ⟨hm, fun k hk => .inl hk⟩
        have hss : Srt S ∧ Ids S := ⟨(List.pairwise_cons.1 HSI.out.1).2, (List.pairwise_cons.1 (show (((v : Int), x2).1 :: S.map (·.1)).Pairwise (· ≠ ·) from HSI.out.2)).2⟩
        obtain ⟨g, hg⟩ : ∃ y, w5.heap.size = y := ⟨_, rfl⟩
        obtain ⟨w6, hw6⟩ : ∃ y, w5.alloc (.cells #[.int .i64 (v : Int), .int .i64 x2] 173) = y := ⟨_, rfl⟩
        have hm6 : Mod (fun _ => False) w5 w6 := by rw [← hw6]; exact Mod.alloc _ _ _
        have hgb : Blk w6 g 173 [.int .i64 (v : Int), .int .i64 x2] := by rw [← hw6, ← hg]; exact Blk.new w5 173 [.int .i64 (v : Int), .int .i64 x2]
        have hz6 : w6.heap.size = g + 1 := by rw [← hw6, ← hg]; exact heap_size_alloc _ _
        have hwin6 := hwin5.guest hm6 (P := fun k => k = g) (fun k hk => by have e2 : k = g := hk; omega)
        have hgr : g ≠ rd := by have := hwin5.2.2.1 rd rfl; omega
        have g0 := hgb.cell 0 rfl
        have g1 := hgb.cell 1 rfl
        have HXE := Lib.hid hxe
        have HWIN6 := Lib.hid hwin6
        have HAH := Lib.hid hah
        have HSS := Lib.hid hss
        have HO6 := Lib.hid hord
        have HG6 := Lib.hid hgb
        have HGR := Lib.hid hgr
        have HVN := Lib.hid hvn
        clear hmh hm hvT hwin5 hss hm6 hgb hz6 hwin6 hgr hxe hah hord
        go_upto_region 12 with fail
        (try rw [hw6])
        (try rw [hg])
        clear hw6 hg
        by_cases hx : (v : Int) = tv
        case pos =>
          have z1 : ((v : Int) == tv) = true := beq_iff_eq.2 hx
          have hfo : foundB d tv mo st = decide (x2 ≤ mo) := by rw [← hx, found_here HO6.out HAH.out (by rw [HI.out]; exact HIS.out), ← HXE.out]
          obtain ⟨bm, hbm⟩ : ∃ b, decide (x2 ≤ mo) = b := ⟨_, rfl⟩
          rw [hbm] at hfo
          have HNO := Lib.hid hfo
          clear hfo hx
          go_wp2_with fail
          go_ret
          exact ⟨by rw [HNO.out]; rfl, HWIN6.out.2.2.2.2.2⟩
        case neg =>
          have z1 : ((v : Int) == tv) = false := beq_eq_false_iff_ne.2 hx
          have hix := fun wx => own_ixb iB hiB hsB rd n v hvn wx
          have hroom := Room.ofOwn HWIN6.out.2.2.2.1 v (by omega)
          have q3 := hroom.free
          have q4 := HWIN6.out.done_at hvn
          obtain ⟨w7, hw7⟩ : ∃ y, w6.setCell ⟨rd, v, none⟩ (.bool true) = y := ⟨_, rfl⟩
          have hms : Mod (fun i => i = rd) w6 w7 := by rw [← hw7]; exact Mod.setCell _ _ _ rfl
          have hwin7 := HWIN6.out.put hvn HRW.out
          rw [hw7] at hwin7
          have hgb7 := HG6.out.keep hms HGR.out
          have g0' := hgb7.cell 0 rfl
          have HWIN7 := Lib.hid hwin7
          have HG7 := Lib.hid hgb7
          have HX := Lib.hid hx
          clear hroom hms hwin7 hgb7 hx hvn
          go_upto_region 15 with fail
          (try rw [hw7])
          clear hw7 g0 g1 q3 q4 hix
          go_wp2_with fail
          refine (rn_out (HRN.out.later HWIN7.out.2.2.2.2.2) HOK.out HLB.out (v : Int)).mono ?_
          rintro e w8 ⟨ar, cr, rfl, ho8, hm8⟩
          have hwin8 := HWIN7.out.guest hm8 (P := fun k => (Value.slice ar (outL L (v : Int)).length cr).ownBlock = some k) (fun k hk => ho8.lt k hk)
          obtain ⟨Z, hZ⟩ : ∃ Z : Nat → Prop, Z = fun k => ((k = rd ∨ k = g) ∨ (Value.slice ar (outL L (v : Int)).length cr).ownBlock = some k) := ⟨_, rfl⟩
          have hzg : Z g := by rw [hZ]; exact .inl (.inr rfl)
          have hzr : Z rd := by rw [hZ]; exact .inl (.inl rfl)
          have hza : ∀ k, (Value.slice ar (outL L (v : Int)).length cr).ownBlock = some k → Z k := fun k hk => by rw [hZ]; exact .inr hk
          have hwin8 : RWin w w8 hb rd n Z (T ++ [v]) S G := by rw [hZ]; exact hwin8
          obtain ⟨ln, hln⟩ : ∃ k, (outL L (v : Int)).length = k := ⟨_, rfl⟩
          have hlb : ln ≤ 10000 := by rw [← hln]; exact Nat.le_trans (List.length_filter_le _ _) HLB.out
          have hr8 := Rd.ofOwn ho8
          rw [hln] at hr8 hza ⊢
          have HR8 := Lib.hid hr8
          have HLN := Lib.hid hln
          have HZ := Lib.hid (And.intro hzg (And.intro hzr hza))
          have HWIN8 := Lib.hid hwin8
          have HG8 := Lib.hid (HG7.out.keep hm8 (fun e => e))
          have hord8 : Ord (netW n L (f : Int) wo) d bigM (T ++ [v]) S (fun e b => b = v ∧ ∃ a ∈ (outL L (v : Int)).drop 0, a.t = (e : Int)) := HO6.out.said (fun e b hr hb => by
            refine ⟨hb, ?_⟩
            obtain ⟨a, h1, h2, h3, _⟩ := netW_inv hr
            exact ⟨a, by rw [List.drop_zero]; exact mem_outL.2 ⟨h1, by rw [h3, hb]⟩, h2⟩)
          have HO8 := Lib.hid hord8
          clear ho8 hm8 hwin8 hzg hzr hza hln hr8 hZ hord8 g0'
          go_wp2_with fail
          go_loopw [19] (fun jv wr => ∃ (j : Nat) (S2 : List It) (G2 : Nat → Prop), jv = .int .i64 (j : Int) ∧ j ≤ ln ∧ RWin w wr hb rd n Z (T ++ [v]) S2 G2 ∧ (Srt S2 ∧ Ids S2) ∧ Ord (netW n L (f : Int) wo) d bigM (T ++ [v]) S2 (fun e b => b = v ∧ ∃ a ∈ (outL L (v : Int)).drop j, a.t = (e : Int)) ∧ Mod (fun k => ¬ Z k) w8 wr) (fun jv _ => ln - (intOf jv).toNat)
          case atStart => exact ⟨0, S, G, rfl, Nat.zero_le _, HWIN8.out, HSS.out, HO8.out, Mod.refl _ _⟩
          case round =>
            obtain ⟨j, S2, G2, rfl, hj, hwin, hsi2, hord, hmz⟩ := hrel
            obtain ⟨wp, hwp⟩ : ∃ x : World, x = wr := ⟨_, rfl⟩
            subst hwp
            have hrd := HR8.out.keep hmz (fun k hk e => e (HZ.out.2.2 k hk))
            have hgb := HG8.out.keep hmz (fun e => e HZ.out.1)
            have g1 := hgb.cell 1 rfl
            have HWP := Lib.hid hwin
            have HS2 := Lib.hid hsi2
            have HOP := Lib.hid hord
            have HMZ := Lib.hid hmz
            clear hwin hsi2 hord hmz
            by_cases hlt : j < ln
            case neg =>
              obtain rfl : j = ln := by omega
              have z5 : decide ((j : Int) < (j : Int)) = false := by simp
              have z5n : decide (j < j) = false := by simp
              have hi1 : IntKind.i64.wrap ((i : Int) + 1) = ((i + 1 : Nat) : Int) := by rw [IntWalk.i64_in _ (by omega)]; omega
              clear hrd hgb g1
              go_wp2_with fail
              go_roundw
              case rel =>
                have hnil : (outL L (v : Int)).drop j = [] := List.drop_eq_nil_of_le (by rw [HLN.out]; exact Nat.le_refl _)
                refine ⟨T ++ [v], S2, G2, ?_, HWP.out.less (fun k hk => by have e2 : k = rd := hk; rw [e2]; exact HZ.out.2.1) rfl, HS2.out, HOP.out.said (fun e b hr hp => by obtain ⟨_, a, ha, _⟩ := hp; rw [hnil] at ha; cases ha), fun t ht => (List.mem_append.1 ht).elim (HNT.out t) (fun e => by rw [List.mem_singleton] at e; subst e; exact HX.out)⟩
                rw [List.length_append, HI.out]; rfl
              case measure => simp [intOf]; omega
            case pos =>
              have z5 : decide ((j : Int) < (ln : Int)) = true := by simp; omega
              have z5n : decide (j < ln) = true := by simp; omega
              have hjl : j < (outL L (v : Int)).length := by rw [HLN.out]; exact hlt
              obtain ⟨ab, ao, hpl, e0, e1, e2, e3⟩ := rd4 hrd j hjl
              have hixa := fun wx => run_indexS (P := Tryz.prog) wx 34 50 iA 4 Tryz.underlying34 hiA hsA ar ln cr j hlt (hrd.some_ (by omega))
              rw [hpl] at hixa
              have hdrop : (outL L (v : Int)).drop j = (outL L (v : Int))[j] :: (outL L (v : Int)).drop (j + 1) := List.drop_eq_getElem_cons hjl
              have hmem : (outL L (v : Int))[j] ∈ outL L (v : Int) := List.getElem_mem hjl
              obtain ⟨ba, hba⟩ : ∃ x, (outL L (v : Int))[j] = x := ⟨_, rfl⟩
              rw [hba] at hdrop hmem e0 e1 e2 e3
              obtain ⟨hmL, hmf⟩ := mem_outL.1 hmem
              have hw5 := HW.out ba hmL
              have hmay := HOK.out.may ba hmL
              unfold mayA at hmay
              obtain ⟨t, ht⟩ := Int.eq_ofNat_of_zero_le hmay.2.2.1
              have htn : t < n := by omega
              rw [ht] at e1
              obtain ⟨wz, hwz⟩ : ∃ z, ba.w = z := ⟨_, rfl⟩
              rw [hwz] at e2
              have hwz2 : 0 ≤ wz ∧ wz ≤ 1099511627776 := by omega
              have hsum : IntKind.i64.wrap (x2 + wz) = x2 + wz := IntWalk.i64_in _ (by omega)
              have hj1 : IntKind.i64.wrap ((j : Int) + 1) = ((j + 1 : Nat) : Int) := by rw [IntWalk.i64_in _ (by omega)]; omega
              have hpend : ∀ e b : Nat, (b = v ∧ ∃ a ∈ (outL L (v : Int)).drop j, a.t = (e : Int)) → (b = v ∧ ∃ a ∈ (outL L (v : Int)).drop (j + 1), a.t = (e : Int)) ∨ (e = t ∧ b = v) := fun e b hp => by
                obtain ⟨h1, a, h2, h3⟩ := hp
                rw [hdrop] at h2
                rcases List.mem_cons.1 h2 with rfl | h2
                · exact .inr ⟨by omega, h1⟩
                · exact .inl ⟨h1, a, h2, h3⟩
              have hixd := fun wx => own_ixb iB hiB hsB rd n t htn wx
              have qd := HWP.out.done_at htn
              have HPD := Lib.hid hpend
              have HBA := Lib.hid (And.intro hmL (And.intro hmf (And.intro ht hwz)))
              clear hdrop hmem hba hmL hmf hw5 hmay ht hwz hpl hrd hgb hpend htn e0 e3
              by_cases hwo : (t : Int) = wo
              case pos =>
                have z6 : ((t : Int) != wo) = false := by rw [hwo]; simp
                have HWO := Lib.hid hwo
                clear hwo
                go_wp2_with fail
                go_roundw
                case rel => exact ⟨j + 1, S2, G2, by go_num, hlt, HWP.out, HS2.out, HOP.out.said (fun e b hr hp => (HPD.out e b hp).elim id (fun h => by obtain ⟨_, _, h9, _⟩ := hr; exact absurd (by rw [h.1]; exact HWO.out) h9)), HMZ.out⟩
                case measure => simp [intOf]; omega
              case neg =>
              have z6 : ((t : Int) != wo) = true := by simpa using hwo
              have hre := HOP.out.reach HF.out HTOP.out HS2.out.2 (netW_rl (fr := (f : Int)) HOK.out HW.out HBA.out.1 (e := t) (b := v) HBA.out.2.2.1 HBA.out.2.1 (by rw [HBA.out.2.2.1]; exact hwo)) (by simp) (pend' := fun e b => b = v ∧ ∃ a ∈ (outL L (v : Int)).drop (j + 1), a.t = (e : Int)) HPD.out
              rw [netW_wt HOK.out.sort HBA.out.1 HBA.out.2.2.1 HBA.out.2.1, HBA.out.2.2.2, ← HXE.out] at hre
              by_cases htd : t ∈ T ++ [v]
              case pos =>
                rw [decide_eq_true htd] at qd
                unfold reachO at hre
                rw [if_pos (.inl htd)] at hre
                have HRE := Lib.hid hre
                clear hre htd hwo
                go_wp2_with fail
                go_roundw
                case rel => exact ⟨j + 1, S2, G2, by go_num, hlt, HWP.out, HS2.out, HRE.out, HMZ.out⟩
                case measure => simp [intOf]; omega
              case neg =>
                rw [decide_eq_false htd] at qd
                unfold reachO at hre
                rw [if_neg (fun h => h.elim htd (fun h => by have : (1000000000000000 : Int) < x2 + wz := h; omega))] at hre
                have HRE := Lib.hid hre
                have hsl : S2.length ≤ 900000000 := by have h1 := HOP.out.few HS2.out.2; have h2 : S2.length ≤ n := h1; omega
                have hwf1 : (Lit.int .i64 (t : Int)).wf = true := wfI _ (by have := HBA.out.2.2.1; have := HOK.out.may ba HBA.out.1; unfold mayA at this; omega)
                have hwf2 : (Lit.int .i64 (x2 + wz)).wf = true := wfI _ (by omega)
                have HPU := Lib.hid (fun W (hm : Mod (fun _ => False) wp W) => rpush_any hb W S2 G2 (HWP.out.later hm).1 HS2.out.1 HS2.out.2 hsl (t : Int) (x2 + wz) hwf1 hwf2)
                clear hre htd hwo hsl hwf1 hwf2
                go_upto_region 20 with fail
                go_still_tail 14, (by kernel_rfl)
                change wpList _ _ _ _ _ (World.drew wp)
                go_wp2_with fail
                refine (HPU.out _ (Mod.drew _ _)).mono ?_
                rintro e w9 ⟨rfl, G3, hmh3, ha3⟩
                have hwin9 := (HWP.out.later (Mod.drew (fun _ => False) _)).aft hmh3 ha3
                have hmz9 : Mod (fun k => ¬ Z k) w8 w9 := (HMZ.out.trans (Mod.drew (fun _ => False) wp) (fun _ _ e => e) (fun _ _ e => e.elim)).trans ha3.1 (fun _ _ e => e) (fun k _ e hz => (HWP.out.2.1 k e).2 hz)
                have HWIN9 := Lib.hid hwin9
                have HMZ9 := Lib.hid hmz9
                clear hwin9 hmz9 hmh3 ha3
                go_wp2_with fail
                go_roundw
                case rel => exact ⟨j + 1, _, G3, by go_num, hlt, HWIN9.out, pushS_ok HS2.out.1 HS2.out.2 _ _, HRE.out, HMZ9.out⟩
                case measure => simp [intOf]; omega
end Go.Proofs.YtjjedebjbgpimaaGreat
