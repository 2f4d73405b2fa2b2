/- witness's front: the object; begin, reach. -/
import Derived.Test.YtjjedebjbgpimaaGreatKWH
import Derived.Test.YtjjedebjbgpimaaGreatKWeb
import Derived.Test.YtjjedebjbgpimaaGreatKN9
import Derived.Deep.DeepCutAuto
import Derived.Deep.CutBlock
namespace Go.Proofs.YtjjedebjbgpimaaGreat
open Go.RowKit Mile
set_option maxRecDepth 100000
def frV (pb vb n : Nat) (wo mo : Int) : Rest4 := (.slice (some ⟨pb, 0, none⟩) n n, .slice (some ⟨vb, 0, none⟩) n n, .int .i64 wo, .int .i64 mo)
structure FrM (w : World) (p pb vb n : Nat) (ps us : List Int) (wo mo : Int) (S : List It) (F : Nat → Prop) : Prop where
  hp : WH.HpO w p (frV pb vb n wo mo) S F
  past : w.ownsRow 0 3 1 (.slice (some ⟨pb, 0, none⟩) n n) n (ps.map (Value.int .i64))
  via : w.ownsRow 0 3 1 (.slice (some ⟨vb, 0, none⟩) n n) n (us.map (Value.int .i64))
  ap : ¬ F pb ∧ ¬ F vb ∧ pb ≠ vb
def FrO (w : World) (p n : Nat) (ps us : List Int) (wo mo : Int) (S : List It) (G : Nat → Prop) : Prop := ∃ pb vb F, FrM w p pb vb n ps us wo mo S F ∧ pb < w.heap.size ∧ vb < w.heap.size ∧ G = fun k => F k ∨ k = pb ∨ k = vb
section
variable {w w' : World} {p pb vb n : Nat} {ps us : List Int} {wo mo : Int} {S : List It} {F G H : Nat → Prop}
theorem FrM.keep (h : FrM w p pb vb n ps us wo mo S F) (hm : Mod H w w') (hd : ∀ k, F k ∨ k = pb ∨ k = vb → ¬ H k) : FrM w' p pb vb n ps us wo mo S F :=
  ⟨h.hp.keep hm (fun k hk => hd k (.inl hk)), Own.keep h.past hm (fun k hk e => hd k (.inr (.inl (Option.some.inj hk).symm)) e), Own.keep h.via hm (fun k hk e => hd k (.inr (.inr (Option.some.inj hk).symm)) e), h.ap⟩
theorem FrM.cells (h : FrM w p pb vb n ps us wo mo S F) : ∃ v mb, Blk w p 193 [v, .map mb, .slice (some ⟨pb, 0, none⟩) n n, .slice (some ⟨vb, 0, none⟩) n n, .int .i64 wo, .int .i64 mo] := by
  obtain ⟨v, l, mb, f, h1, _⟩ := h.hp; exact ⟨v, mb, h1.blk⟩
theorem FrM.lenp (h : FrM w p pb vb n ps us wo mo S F) : ps.length = n := by have := h.past.1; simpa using this
theorem FrM.lenv (h : FrM w p pb vb n ps us wo mo S F) : us.length = n := by have := h.via.1; simpa using this
theorem FrO.keep (h : FrO w p n ps us wo mo S G) (hm : Mod H w w') (hd : ∀ k, G k → ¬ H k) : FrO w' p n ps us wo mo S G := by
  obtain ⟨pb, vb, F, h, h1, h2, rfl⟩ := h
  have := hm.size
  exact ⟨pb, vb, F, h.keep hm hd, by omega, by omega, rfl⟩
theorem FrO.later (h : FrO w p n ps us wo mo S G) (hm : Mod (fun _ => False) w w') : FrO w' p n ps us wo mo S G := h.keep hm (fun _ _ e => e)
theorem FrO.lt (h : FrO w p n ps us wo mo S G) : ∀ k, G k → k < w.heap.size := by
  obtain ⟨pb, vb, F, h, h1, h2, rfl⟩ := h
  rintro k (e | rfl | rfl)
  · exact h.hp.lt k e
  · exact h1
  · exact h2
theorem FrO.self (h : FrO w p n ps us wo mo S G) : G p := by
  obtain ⟨pb, vb, F, h, h1, h2, rfl⟩ := h
  exact .inl h.hp.self
theorem FrO.ids (h : FrO w p n ps us wo mo S G) : Srt S ∧ Ids S := by
  obtain ⟨pb, vb, F, h, h1, h2, rfl⟩ := h
  exact ⟨h.hp.ok.1, h.hp.ok.2.1⟩
theorem FrO.lenp (h : FrO w p n ps us wo mo S G) : ps.length = n ∧ us.length = n := by
  obtain ⟨pb, vb, F, h, h1, h2, rfl⟩ := h
  exact ⟨h.lenp, h.lenv⟩
end
theorem fr_int (n : Nat) : (List.replicate n (0 : Int)).map (Value.int .i64) = List.replicate n (.int .i64 0) := by simp
theorem made_fr (w : World) (n : Nat) (hn : n ≤ 512) (wo mo : Int) (pb vb : Nat) (hpv : (pb = w.heap.size ∧ vb = w.heap.size + 1) ∨ (vb = w.heap.size ∧ pb = w.heap.size + 1)) (w3 : World)
    (h3 : w3 = ((w.alloc (.cells (zrow (.int .i64 0) n) 3)).alloc (.cells (zrow (.int .i64 0) n) 3)).alloc (.cells #[.slice none 0 0, .map none, .slice (some ⟨pb, 0, none⟩) n n, .slice (some ⟨vb, 0, none⟩) n n, .int .i64 wo, .int .i64 mo] 193)) :
    ∃ G, FrO w3 (w.heap.size + 1 + 1) n (List.replicate n 0) (List.replicate n 0) wo mo [] G ∧ (∀ k, G k → w.heap.size ≤ k) ∧ Mod (fun _ => False) w w3 := by
  have ha := own_zrow w 3 (.int .i64 0) n w.heap.size rfl (by omega)
  obtain ⟨w1, hw1⟩ : ∃ y, w.alloc (.cells (zrow (.int .i64 0) n) 3) = y := ⟨_, rfl⟩
  have hm1 : Mod (fun _ => False) w w1 := by rw [← hw1]; exact Mod.alloc _ _ _
  have hz1 : w1.heap.size = w.heap.size + 1 := by rw [← hw1]; exact heap_size_alloc _ _
  rw [hw1] at ha h3
  have hb := own_zrow w1 3 (.int .i64 0) n (w.heap.size + 1) hz1.symm (by omega)
  obtain ⟨w2, hw2⟩ : ∃ y, w1.alloc (.cells (zrow (.int .i64 0) n) 3) = y := ⟨_, rfl⟩
  have hm2 : Mod (fun _ => False) w1 w2 := by rw [← hw2]; exact Mod.alloc _ _ _
  have hz2 : w2.heap.size = w.heap.size + 1 + 1 := by rw [← hw2, heap_size_alloc, hz1]
  rw [hw2] at hb h3
  have hm3 : Mod (fun _ => False) w2 w3 := by rw [h3]; exact Mod.alloc _ _ _
  have hp := WH.HpO.new (fv := frV pb vb n wo mo) w2 (w.heap.size + 1 + 1) hz2.symm
  have ha3 := Own.keep (Own.keep ha hm2 (fun _ _ e => e)) hm3 (fun _ _ e => e)
  have hb3 := Own.keep hb hm3 (fun _ _ e => e)
  have hz3 := hm3.size
  rw [← fr_int] at ha3 hb3
  refine ⟨_, ⟨pb, vb, _, ⟨by rw [h3]; exact hp, ?_, ?_, ?_⟩, by omega, by omega, rfl⟩, ?_, (hm1.of2 hm2).of2 hm3⟩
  · rcases hpv with ⟨rfl, rfl⟩ | ⟨rfl, rfl⟩
    · exact ha3
    · exact hb3
  · rcases hpv with ⟨rfl, rfl⟩ | ⟨rfl, rfl⟩
    · exact hb3
    · exact ha3
  · omega
  · rintro k (e | rfl | rfl)
    · have e2 : k = w.heap.size + 1 + 1 := e
      omega
    · omega
    · omega
set_option maxHeartbeats 4000000 in
theorem frbegin_any (w : World) (n : Nat) (hn : n ≤ 512) (wo mo : Int) : Calls Tryz.prog 157 #[.int .i64 (n : Int), .int .i64 wo, .int .i64 mo] w fun e w' => ∃ p G, e = .returned (.pointer (some ⟨p, 0, none⟩)) ∧ FrO w' p n (List.replicate n 0) (List.replicate n 0) wo mo [] G ∧ (∀ k, G k → w.heap.size ≤ k) ∧ Mod (fun _ => False) w w' := by
  obtain ⟨iI, hiI, hzI, hsI, hbI⟩ := info_parts Nt.infoI
  have hmk := fun wx => run_makeS (P := Tryz.prog) 40 3 iI (.int .i64 0) Tryz.underlying40 hiI hzI rfl hsI n (by rw [hbI]; omega) (by omega) wx
  go_enter Tryz.func157, Tryz.ntmps157
  go_upto_region 1 with fail
  go_region_law (fail)
  all_goals
    (try go_wp2_with fail)
    go_ret
    first
      | (obtain ⟨G, h1, h2, h3⟩ := made_fr w n hn wo mo w.heap.size (w.heap.size + 1) (.inl ⟨rfl, rfl⟩) _ rfl
         exact ⟨_, G, rfl, h1.later (Mod.drew _ _), h2, h3.of2 (Mod.drew _ _)⟩)
      | (obtain ⟨G, h1, h2, h3⟩ := made_fr w n hn wo mo (w.heap.size + 1) w.heap.size (.inr ⟨rfl, rfl⟩) _ rfl
         exact ⟨_, G, rfl, h1.later (Mod.drew _ _), h2, h3.of2 (Mod.drew _ _)⟩)
end Go.Proofs.YtjjedebjbgpimaaGreat
namespace Go.Proofs.YtjjedebjbgpimaaGreat
open Go.RowKit Mile
set_option maxRecDepth 100000
def dP (ps : List Int) (e : Nat) : Int := ps.getD e 0
theorem dP_eq (ps : List Int) (e : Nat) (h : e < ps.length) : dP ps e = ps[e] := by simp [dP, List.getD, h]
theorem dP_set (ps : List Int) (i : Nat) (x : Int) (j : Nat) (h : i < ps.length) : dP (ps.set i x) j = if j = i then x else dP ps j := by
  unfold dP
  rw [List.getD, List.getD, List.getElem?_set]
  by_cases e : i = j
  · subst e; simp [h]
  · rw [if_neg e, if_neg (Ne.symm e)]
def lessB (ps : List Int) (wo mo : Int) (e : Nat) (k : Int) : Bool := (decide (dP ps e = 0) || decide (k < dP ps e - 1)) && (decide (k ≤ mo) && decide ((e : Int) ≠ wo))
def FrRP (p n : Nat) (ps us : List Int) (wo mo : Int) (S : List It) (G : Nat → Prop) (e : Nat) (k v : Int) (w w' : World) : Prop :=
  ∃ G', FrO w' p n (if lessB ps wo mo e k then ps.set e (k + 1) else ps) (if lessB ps wo mo e k then us.set e v else us) wo mo (if lessB ps wo mo e k then (pushS S e k).2 else S) G' ∧ Aft w w' G G'
theorem wfI (x : Int) (h : -9223372036854775808 ≤ x ∧ x ≤ 9223372036854775807) : (Lit.int .i64 x).wf = true := (i64_wf x).2 h
set_option maxHeartbeats 8000000 in
theorem frreach_any {w : World} {p n : Nat} {ps us : List Int} {wo mo : Int} {S : List It} {G : Nat → Prop} (h : FrO w p n ps us wo mo S G) (hn : n ≤ 512) (hS : S.length ≤ 1000) (e : Nat) (he : e < n) (k : Int) (hk : 0 ≤ k ∧ k ≤ 1000000000000000) (v : Int) (hx : 0 ≤ dP ps e ∧ dP ps e ≤ 1000000000000001) :
    Calls Tryz.prog 158 #[.pointer (some ⟨p, 0, none⟩), .int .i64 (e : Int), .int .i64 k, .int .i64 v] w fun x w' => x = .returned (.tuple #[]) ∧ FrRP p n ps us wo mo S G e k v w w' := by
  obtain ⟨pb, vb, F, h, hpl, hvl, rfl⟩ := h
  obtain ⟨iI, hiI, hzI, hsI, hbI⟩ := info_parts Nt.infoI
  obtain ⟨h0, mb, hb⟩ := h.cells
  have hlp := h.lenp
  have hlv := h.lenv
  have c2 := hb.cell 2 rfl
  have c3 := hb.cell 3 rfl
  have c4 := hb.cell 4 rfl
  have c5 := hb.cell 5 rfl
  obtain ⟨x, hxe⟩ : ∃ x, dP ps e = x := ⟨_, rfl⟩
  have hroom := Room.ofOwn h.past e (by omega)
  have hroomv := Room.ofOwn h.via e (by omega)
  have e0 : w.cell? ⟨pb, e, none⟩ = some (.int .i64 x) := by
    obtain ⟨eb, eo, hpl, e0⟩ := rd1 (Rd.ofOwn h.past) e (by omega)
    rw [elemA_lit] at hpl
    obtain ⟨rfl, rfl⟩ : pb = eb ∧ e = eo := by injection hpl with h1 h2; exact ⟨h1, h2⟩
    rw [← dP_eq ps e (by omega), hxe] at e0
    exact e0
  have hix : ∀ wx, (Instr.indexAt 40 (.slice (some ⟨pb, 0, none⟩) n n) (.int .i64 (e : Int))).run Tryz.prog wx = .ok (.pointer (some ⟨pb, e, none⟩)) wx := fun wx => by
    have h := run_indexS (P := Tryz.prog) wx 40 3 iI 1 Tryz.underlying40 hiI hsI (some ⟨pb, 0, none⟩) n n e he (by simp)
    rw [elemA_lit] at h; exact h
  have hiv : ∀ wx, (Instr.indexAt 40 (.slice (some ⟨vb, 0, none⟩) n n) (.int .i64 (e : Int))).run Tryz.prog wx = .ok (.pointer (some ⟨vb, e, none⟩)) wx := fun wx => by
    have h := run_indexS (P := Tryz.prog) wx 40 3 iI 1 Tryz.underlying40 hiI hsI (some ⟨vb, 0, none⟩) n n e he (by simp)
    rw [elemA_lit] at h; exact h
  obtain ⟨ev0, ev1⟩ := hroomv.cell
  have hw1 : IntKind.i64.wrap (x - 1) = x - 1 := IntWalk.i64_in _ (by omega)
  have hw2 : IntKind.i64.wrap (k + 1) = k + 1 := IntWalk.i64_in _ (by omega)
  have e1 := hroom.free
  have ev2 := hroomv.free
  have el := hroom.lt
  have evl := hroomv.lt
  have H := Lib.hid h
  have HPV := Lib.hid (And.intro hpl hvl)
  have HLP := Lib.hid hlp
  have HLV := Lib.hid hlv
  have HSZ := Lib.hid hS
  have hpne : pb ≠ vb := h.ap.2.2
  obtain ⟨l, hl⟩ : ∃ l, (x == 0 || decide (k < x - 1)) = l := ⟨_, rfl⟩
  have HL := Lib.hid hl
  have hless : lessB ps wo mo e k = (l && (decide (k ≤ mo) && decide ((e : Int) ≠ wo))) := by
    unfold lessB
    rw [hxe, ← hl]
    congr 2
  have HLESS := Lib.hid hless
  have hsame : lessB ps wo mo e k = false → FrRP p n ps us wo mo S (fun q => F q ∨ q = pb ∨ q = vb) e k v w w := fun hf => by
    unfold FrRP
    rw [hf]
    exact ⟨_, ⟨pb, vb, F, H.out, HPV.out.1, HPV.out.2, rfl⟩, Aft.refl _ _⟩
  have HSAME := Lib.hid hsame
  have hpush := fun (w2 : World) (h2 : WH.HpO w2 p (frV pb vb n wo mo) S F) => WH.hpush_any p w2 S F h2 (by omega) (e : Int) k (wfI _ (by omega)) (wfI _ (by omega))
  have HPU := Lib.hid hpush
  clear h hlp hlv hpl hvl hb hroom hroomv hS hl hless hsame hpush
  go_enter Tryz.func158, Tryz.ntmps158
  go_upto_region 0 with fail
  go_cut [8] (fun s wx => s = .bool l ∧ w = wx)
  case first =>
    by_cases hx0 : x = 0
    · subst hx0
      have HLT : Hid (true = l) := Lib.hid HL.out
      go_wp2_with fail
      go_meet
      exact ⟨by rw [← HLT.out], rfl⟩
    · have z0 : (x == 0) = false := by simpa using hx0
      obtain ⟨r, hr⟩ : ∃ r, decide (k < x - 1) = r := ⟨_, rfl⟩
      have hl := HL.out
      rw [z0, hr, Bool.false_or] at hl
      clear hx0
      go_wp2_with fail
      go_meet
      exact ⟨rfl, rfl⟩
  case rest =>
    obtain ⟨rfl, rfl⟩ := hcut
    have HE0 := Lib.hid e0
    clear e0 hw1
    cases l with
    | false =>
      have hf : lessB ps wo mo e k = false := by rw [HLESS.out]; rfl
      have HF := Lib.hid hf
      clear hf
      go_wp2_with fail
      go_end0
      exact ⟨rfl, HSAME.out HF.out⟩
    | true =>
      by_cases hkm : k ≤ mo
      case neg =>
        have z1 : decide (k ≤ mo) = false := decide_eq_false hkm
        have hf : lessB ps wo mo e k = false := by rw [HLESS.out, z1]; rfl
        have HF := Lib.hid hf
        clear hf hkm
        go_wp2_with fail
        go_end0
        exact ⟨rfl, HSAME.out HF.out⟩
      case pos =>
        have z1 : decide (k ≤ mo) = true := decide_eq_true hkm
        by_cases hwo : (e : Int) = wo
        · have z2 : ((e : Int) == wo) = true := by simpa using hwo
          have z3 : ((e : Int) != wo) = false := by simpa using hwo
          have hf : lessB ps wo mo e k = false := by rw [HLESS.out, decide_eq_false (p := ¬ (e : Int) = wo) (fun h => h hwo), Bool.and_false, Bool.and_false]
          have HF := Lib.hid hf
          clear hf hkm hwo
          go_wp2_with fail
          go_end0
          exact ⟨rfl, HSAME.out HF.out⟩
        · have z2 : ((e : Int) == wo) = false := by simpa using hwo
          have z3 : ((e : Int) != wo) = true := by simpa using hwo
          have hf : lessB ps wo mo e k = true := by rw [HLESS.out, z1, decide_eq_true hwo]; rfl
          have HF := Lib.hid hf
          clear hf hkm hwo HSAME HLESS
          have e0 := HE0.out
          go_upto_region 2 with fail
          go_cut [] (fun wx => FrM wx p pb vb n (ps.set e (k + 1)) (us.set e v) wo mo S F ∧ Mod (fun q => F q ∨ q = pb ∨ q = vb) w wx)
          case first =>
            go_region
            all_goals
              (try go_wp2_with fail)
              go_meet
              have h1 := (H.out.past.stored e (.int .i64 (k + 1))).1
              rw [← List.map_set] at h1
              have m1 : Mod (fun q => q = pb) w (w.setCell ⟨pb, e, none⟩ (.int .i64 (k + 1))) := Mod.setCell _ _ _ rfl
              have v1 := Own.keep H.out.via m1 (fun q hq e2 => hpne (by have e3 : vb = q := Option.some.inj hq; rw [e3]; exact e2.symm))
              have h2 := (v1.stored e (.int .i64 v)).1
              rw [← List.map_set] at h2
              have m2 : Mod (fun q => q = vb) (w.setCell ⟨pb, e, none⟩ (.int .i64 (k + 1))) ((w.setCell ⟨pb, e, none⟩ (.int .i64 (k + 1))).setCell ⟨vb, e, none⟩ (.int .i64 v)) := Mod.setCell _ _ _ rfl
              have m3 := Mod.drew (fun _ => False) ((w.setCell ⟨pb, e, none⟩ (.int .i64 (k + 1))).setCell ⟨vb, e, none⟩ (.int .i64 v))
              have p2 := Own.keep h1 m2 (fun q hq e2 => hpne (by have e3 : pb = q := Option.some.inj hq; rw [e3]; exact e2))
              have hp2 := (H.out.hp.keep m1 (fun q hq e2 => H.out.ap.1 (by have e3 : q = pb := e2; rw [← e3]; exact hq))).keep m2 (fun q hq e2 => H.out.ap.2.1 (by have e3 : q = vb := e2; rw [← e3]; exact hq))
              exact ⟨⟨hp2.keep m3 (fun _ _ e => e), Own.keep p2 m3 (fun _ _ e => e), Own.keep h2 m3 (fun _ _ e => e), H.out.ap⟩, ((m1.trans m2 (H := fun q => F q ∨ q = pb ∨ q = vb) (fun _ _ e => .inr (.inl e)) (fun _ _ e => .inr (.inr e))).trans m3 (fun _ _ e => e) (fun _ _ e => e.elim))⟩
          case rest =>
            obtain ⟨h2, hm2⟩ := hcut
            have H2 := Lib.hid h2
            have HM2 := Lib.hid hm2
            have hp2 := h2.hp
            clear h2 hm2 c2 c3 c4 c5 hix hiv ev1 ev0 e1 ev2 el evl
            go_wp2_with fail
            refine (HPU.out _ hp2).mono ?_
            rintro x w3 ⟨rfl, F', hp', hA⟩
            go_wp2_with fail
            go_end0
            unfold FrRP
            rw [HF.out]
            simp only [if_true]
            have hs2 := HM2.out.size
            have hs3 := hA.1.size
            have hnb : ∀ q, q = pb ∨ q = vb → ¬ F' q := fun q hq hF => (hA.2 q hF).elim (fun h4 => by rcases hq with rfl | rfl; exact H2.out.ap.1 h4; exact H2.out.ap.2.1 h4) (fun h4 => by have h5 := HPV.out; rcases hq with rfl | rfl <;> omega)
            refine ⟨by first | rfl | trivial, _, ⟨pb, vb, F', ⟨hp', Own.keep H2.out.past hA.1 (fun q hq e2 => H2.out.ap.1 (by have e3 : pb = q := Option.some.inj hq; rw [e3]; exact e2)), Own.keep H2.out.via hA.1 (fun q hq e2 => H2.out.ap.2.1 (by have e3 : vb = q := Option.some.inj hq; rw [e3]; exact e2)), ⟨hnb pb (.inl rfl), hnb vb (.inr rfl), H2.out.ap.2.2⟩⟩, by have := HPV.out; omega, by have := HPV.out; omega, rfl⟩, (HM2.out.trans hA.1 (fun _ _ e => e) (fun _ _ e => .inl e)), fun q hq => ?_⟩
            rcases hq with h4 | h4
            · rcases hA.2 q h4 with h5 | h5
              · exact .inl (.inl h5)
              · exact .inr (by omega)
            · exact .inl (.inr h4)
end Go.Proofs.YtjjedebjbgpimaaGreat
namespace Go.Proofs.YtjjedebjbgpimaaGreat
open Go.RowKit Mile
def netW (n : Nat) (L : List Ar) (fr wo : Int) : Web where
  m := n
  st := fun e => (e : Int) = fr ∧ fr ≠ wo
  rl := fun e b => ∃ a, findN L (b : Int) (e : Int) = some a ∧ (e : Int) ≠ wo ∧ 1 ≤ a.w ∧ a.w ≤ 1099511627776 ∧ e < n ∧ b < n
  wt := fun e b => match findN L (b : Int) (e : Int) with | some a => a.w | none => 0
  one := fun e b ⟨a, h1, _, h2, h3, h4, h5⟩ => by rw [h1]; exact ⟨h2, h3, h4, h5⟩
theorem netW_wt {n : Nat} {L : List Ar} {fr wo : Int} (hs : SortN L) {a : Ar} (ha : a ∈ L) {e b : Nat} (he : a.t = e) (hb : a.f = b) : (netW n L fr wo).wt e b = a.w := by
  show (match findN L (b : Int) (e : Int) with | some a => a.w | none => 0) = a.w
  rw [← he, ← hb, findN_some hs ha]
theorem netW_rl {n : Nat} {L : List Ar} {fr wo : Int} (hok : NetOk n L) (hw : ∀ a ∈ L, a.w ≤ 1099511627776) {a : Ar} (ha : a ∈ L) {e b : Nat} (he : a.t = e) (hb : a.f = b) (hwo : a.t ≠ wo) : (netW n L fr wo).rl e b := by
  have hm := hok.may a ha
  unfold mayA at hm
  exact ⟨a, by rw [← he, ← hb]; exact findN_some hok.sort ha, by rw [← he]; exact hwo, hm.2.2.2.2.2.1, hw a ha, by omega, by omega⟩
theorem findN_inv {L : List Ar} {f t : Int} {a : Ar} (h : findN L f t = some a) : a ∈ L ∧ a.f = f ∧ a.t = t := by
  unfold findN at h
  have h2 := List.find?_some h
  have := of_decide_eq_true h2
  exact ⟨List.mem_of_find?_eq_some h, this⟩
theorem netW_inv {n : Nat} {L : List Ar} {fr wo : Int} {e b : Nat} (h : (netW n L fr wo).rl e b) : ∃ a ∈ L, a.t = e ∧ a.f = b ∧ a.t ≠ wo ∧ (netW n L fr wo).wt e b = a.w := by
  obtain ⟨a, h1, h2, _⟩ := h
  obtain ⟨h3, h4, h5⟩ := findN_inv h1
  refine ⟨a, h3, h5, h4, by rw [h5]; exact h2, ?_⟩
  show (match findN L (b : Int) (e : Int) with | some a => a.w | none => 0) = a.w
  rw [h1]
theorem netW_ex (n : Nat) (hn : n ≤ 512) (L : List Ar) (fr wo : Int) : ∃ d, Fix (netW n L fr wo) d := Fix.ex _ hn (fun e => decide ((e : Int) = fr ∧ fr ≠ wo)) (fun e => by
  show ((e : Int) = fr ∧ fr ≠ wo) ↔ _
  simp)
theorem Fix.top' {X : Web} {d : List Int} (h : Fix X d) (hm : X.m ≤ 512) (s : Nat → Bool) (hs : ∀ e, X.st e ↔ s e = true) : ∀ e, dAt d e ≤ 562949953421312 := by
  have key : ∀ (n : Nat) (d0 : List Int), pot d0 = n → BF X d0 → ∃ d', Fix X d' ∧ ∀ e, dAt d' e ≤ 562949953421312 := by
    intro n
    induction n using Nat.strongRecOn with
    | ind n ih =>
      intro d0 hp hb
      by_cases hs : ∀ e b, X.rl e b → 0 ≤ dAt d0 b → 0 ≤ dAt d0 e ∧ dAt d0 e ≤ dAt d0 b + X.wt e b
      · exact ⟨d0, hb.done hs, hb.top hm⟩
      · obtain ⟨e, he⟩ := Classical.not_forall.1 hs
        obtain ⟨b, he⟩ := Classical.not_forall.1 he
        obtain ⟨h1, he⟩ := Classical.not_imp.1 he
        obtain ⟨h2, he⟩ := Classical.not_imp.1 he
        have h3 := hb.relax hm h1 h2 (by omega)
        exact ih _ (by rw [← hp]; exact h3.2) _ rfl h3.1
  obtain ⟨d', h1, h2⟩ := key _ _ rfl (BF.begin X s hs)
  rw [h.uniq h1]; exact h2
theorem netW_top {n : Nat} (hn : n ≤ 512) {L : List Ar} {fr wo : Int} {d : List Int} (h : Fix (netW n L fr wo) d) : ∀ e, dAt d e ≤ 562949953421312 :=
  h.top' hn (fun e => decide ((e : Int) = fr ∧ fr ≠ wo)) (fun e => by show ((e : Int) = fr ∧ fr ≠ wo) ↔ _; simp)
theorem push_iff {S : List It} (hid : Ids S) {id key x k : Int} : (x, k) ∈ (pushS S id key).2 ↔ (x ≠ id ∧ (x, k) ∈ S) ∨ (x = id ∧ ((k = key ∧ ∀ k', (id, k') ∈ S → key < k') ∨ ((id, k) ∈ S ∧ k ≤ key))) := by
  unfold pushS
  cases hk : keyS S id with
  | none =>
    have hn := keyS_none_inv hk
    simp only []
    rw [(insS_perm S (id, key)).mem_iff, List.mem_cons]
    constructor
    · rintro (h | h)
      · obtain ⟨rfl, rfl⟩ := Prod.mk.inj h
        exact .inr ⟨rfl, .inl ⟨rfl, fun k' h' => absurd rfl (hn _ h')⟩⟩
      · exact .inl ⟨fun e => hn _ h e, h⟩
    · rintro (⟨_, h⟩ | ⟨rfl, ⟨rfl, _⟩ | ⟨h, _⟩⟩)
      · exact .inr h
      · exact .inl rfl
      · exact absurd rfl (hn _ h)
  | some k0 =>
    have h0 := keyS_inv hk
    have huniq : ∀ k', (id, k') ∈ S → k' = k0 := fun k' h' => by
      have := keyS_some hid h' rfl
      rw [hk] at this; exact (Option.some.inj this).symm
    simp only []
    split
    · rename_i hle
      constructor
      · intro h
        by_cases e : x = id
        · subst e
          exact .inr ⟨rfl, .inr ⟨h, by rw [huniq k h]; exact hle⟩⟩
        · exact .inl ⟨e, h⟩
      · rintro (⟨_, h⟩ | ⟨rfl, ⟨rfl, h⟩ | ⟨h, _⟩⟩)
        · exact h
        · have := h k0 h0; omega
        · exact h
    · rename_i hle
      rw [(insS_perm _ (id, key)).mem_iff, List.mem_cons, mem_dropS]
      constructor
      · rintro (h | ⟨h, h2⟩)
        · obtain ⟨rfl, rfl⟩ := Prod.mk.inj h
          exact .inr ⟨rfl, .inl ⟨rfl, fun k' h' => by rw [huniq k' h']; omega⟩⟩
        · exact .inl ⟨h2, h⟩
      · rintro (⟨h2, h⟩ | ⟨rfl, ⟨rfl, _⟩ | ⟨h, h2⟩⟩)
        · exact .inr ⟨h, h2⟩
        · exact .inl rfl
        · have := huniq k h; omega
structure PIn (d : List Int) (T : List Nat) (S : List It) (ps : List Int) (n : Nat) : Prop where
  len : ps.length = n
  set : ∀ e ∈ T, dP ps e = dAt d e + 1
  kn : ∀ (e : Nat) k, e ∉ T → ((e : Int), k) ∈ S → dP ps e = k + 1
  no : ∀ e : Nat, e ∉ T → (∀ k, ((e : Int), k) ∉ S) → dP ps e = 0
theorem PIn.bound {X : Web} {d : List Int} {mo : Int} {T : List Nat} {S : List It} {ps : List Int} {n : Nat} {pend : Nat → Nat → Prop} (h : PIn d T S ps n) (ho : Ord X d mo T S pend) (htop : ∀ e, dAt d e ≤ 562949953421312) (e : Nat) : 0 ≤ dP ps e ∧ dP ps e ≤ 1000000000000001 := by
  by_cases h1 : e ∈ T
  · rw [h.set e h1]; have := (ho.t e h1).1; have := htop e; omega
  · by_cases h2 : ∃ k, ((e : Int), k) ∈ S
    · obtain ⟨k, h2⟩ := h2
      rw [h.kn e k h1 h2]
      obtain ⟨e', _, _, _, _, h3, h4, h5⟩ := ho.sound _ h2
      simp only at h4 h5; omega
    · rw [h.no e h1 (fun k hk => h2 ⟨k, hk⟩)]; omega
theorem reach_step {X : Web} {d : List Int} {mo wo : Int} {T : List Nat} {S : List It} {ps : List Int} {n : Nat} {pend pend' : Nat → Nat → Prop} (hx : X.m = n) (h : PIn d T S ps n) (ho : Ord X d mo T S pend) (hf : Fix X d) (htop : ∀ e, dAt d e ≤ 562949953421312) (hid : Ids S) {e b : Nat} (hr : X.rl e b) (hwo : (e : Int) ≠ wo) (hb : b ∈ T)
    (hp : ∀ e' b', pend e' b' → pend' e' b' ∨ (e' = e ∧ b' = b)) (k : Int) (hk : k = dAt d b + X.wt e b) :
    Ord X d mo T (if lessB ps wo mo e k then (pushS S e k).2 else S) pend' ∧ PIn d T (if lessB ps wo mo e k then (pushS S e k).2 else S) (if lessB ps wo mo e k then ps.set e (k + 1) else ps) n := by
  have hm := X.one e b hr
  have he : e < ps.length := by rw [h.len, ← hx]; exact hm.2.2.1
  have hb0 := (ho.t b hb).1
  have hsh := hf.shut e b hr hb0
  rw [← hk] at hsh
  have hk0 : 0 ≤ k := by omega
  have hor := ho.reach hf htop hid hr hb hp
  rw [← hk] at hor
  have hless : lessB ps wo mo e k = ((decide (dP ps e = 0) || decide (k < dP ps e - 1)) && decide (k ≤ mo)) := by
    unfold lessB; rw [decide_eq_true hwo, Bool.and_true]
  unfold reachO at hor
  by_cases hT : e ∈ T
  · have h1 := h.set e hT
    have hl : lessB ps wo mo e k = false := by
      rw [hless, decide_eq_false (by omega), decide_eq_false (by omega)]; rfl
    rw [hl]
    rw [if_pos (.inl hT)] at hor
    exact ⟨hor, h⟩
  · by_cases hmo : mo < k
    · have hl : lessB ps wo mo e k = false := by rw [hless, decide_eq_false (by omega : ¬ k ≤ mo), Bool.and_false]
      rw [hl]
      rw [if_pos (.inr hmo)] at hor
      exact ⟨hor, h⟩
    · rw [if_neg (fun x => x.elim hT hmo)] at hor
      have hless2 : lessB ps wo mo e k = (decide (dP ps e = 0) || decide (k < dP ps e - 1)) := by rw [hless, decide_eq_true (by omega : k ≤ mo), Bool.and_true]
      have pin : (∀ k', ((e : Int), k') ∈ S → k < k') → PIn d T (pushS S e k).2 (ps.set e (k + 1)) n := fun hlt => by
        refine ⟨by rw [List.length_set]; exact h.len, fun u hu => ?_, fun u k' hu hk' => ?_, fun u hu hno => ?_⟩
        · rw [dP_set _ _ _ _ he, if_neg (fun (x : u = e) => hT (x ▸ hu))]; exact h.set u hu
        · rw [dP_set _ _ _ _ he]
          rcases (push_iff hid).1 hk' with ⟨h1, h2⟩ | ⟨h1, ⟨h2, _⟩ | ⟨h2, h3⟩⟩
          · rw [if_neg (fun x => h1 (by rw [x]))]; exact h.kn u k' hu h2
          · have : u = e := by omega
            subst this
            rw [if_pos rfl, h2]
          · have := hlt k' h2; omega
        · rw [dP_set _ _ _ _ he]
          by_cases hue : u = e
          · subst hue
            exact absurd ((push_iff hid).2 (.inr ⟨rfl, .inl ⟨rfl, hlt⟩⟩)) (hno k)
          · rw [if_neg hue]
            exact h.no u hu (fun k' hk' => hno k' ((push_iff hid).2 (.inl ⟨by omega, hk'⟩)))
      by_cases hs : ∃ k0, ((e : Int), k0) ∈ S
      · obtain ⟨k0, hs⟩ := hs
        have h1 := h.kn e k0 hT hs
        have huniq : ∀ k', ((e : Int), k') ∈ S → k' = k0 := fun k' h' => by
          have a1 := keyS_some hid h' rfl
          have a2 := keyS_some hid hs rfl
          rw [a1] at a2; exact Option.some.inj a2
        obtain ⟨_, _, _, _, _, h5, h6, _⟩ := ho.sound _ hs
        simp only at h6
        by_cases hlt : k < k0
        · have hl : lessB ps wo mo e k = true := by rw [hless2, decide_eq_true (by omega : k < dP ps e - 1), Bool.or_true]
          rw [hl]
          exact ⟨hor, pin (fun k' h' => by rw [huniq k' h']; exact hlt)⟩
        · have hl : lessB ps wo mo e k = false := by rw [hless2, decide_eq_false (by omega), decide_eq_false (by omega)]; rfl
          rw [hl]
          have hsame : (pushS S (e : Int) k).2 = S := by
            unfold pushS
            rw [keyS_some hid hs rfl]
            simp only []
            rw [if_pos (by show k0 ≤ k; omega)]
          rw [hsame] at hor
          exact ⟨hor, h⟩
      · have h1 := h.no e hT (fun k' hk' => hs ⟨k', hk'⟩)
        have hl : lessB ps wo mo e k = true := by rw [hless2, decide_eq_true h1, Bool.true_or]
        rw [hl]
        exact ⟨hor, pin (fun k' h' => absurd ⟨k', h'⟩ hs)⟩
theorem PIn.pop {d : List Int} {T : List Nat} {S : List It} {x : It} {ps : List Int} {n : Nat} (h : PIn d T (x :: S) ps n) {e : Nat} (he : x.1 = e) (hd : x.2 = dAt d e) (heT : e ∉ T) (hid : Ids (x :: S)) : PIn d (T ++ [e]) S ps n := by
  obtain ⟨x1, x2⟩ := x
  simp only at he hd
  subst he hd
  refine ⟨h.len, fun u hu => ?_, fun u k hu hk => ?_, fun u hu hno => ?_⟩
  · rcases List.mem_append.1 hu with h1 | h1
    · exact h.set u h1
    · rw [List.mem_singleton] at h1; subst h1
      exact h.kn u _ heT List.mem_cons_self
  · exact h.kn u k (fun x => hu (List.mem_append_left _ x)) (List.mem_cons_of_mem _ hk)
  · refine h.no u (fun x => hu (List.mem_append_left _ x)) (fun k hk => ?_)
    rcases List.mem_cons.1 hk with h1 | h1
    · have : u = e := by have := congrArg Prod.fst h1; simp only at this; omega
      exact hu (by rw [this]; simp)
    · exact hno k h1
theorem PIn.begin (d : List Int) (n : Nat) : PIn d [] [] (List.replicate n 0) n :=
  ⟨by simp, by simp, by simp, fun e _ _ => by unfold dP; rw [List.getD, List.getElem?_replicate]; split <;> rfl⟩
def foundB (d : List Int) (tv mo st : Int) : Bool := decide (0 ≤ tv ∧ 0 ≤ dAt d tv.toNat ∧ dAt d tv.toNat ≤ mo ∧ (rankN d tv.toNat : Int) < st)
end Go.Proofs.YtjjedebjbgpimaaGreat
