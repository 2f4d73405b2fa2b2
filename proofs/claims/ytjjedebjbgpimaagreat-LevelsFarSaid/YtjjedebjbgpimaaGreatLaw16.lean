/- Law 16's built, and what its nets are. -/
import Derived.Test.YtjjedebjbgpimaaGreatKMd
import Derived.Test.YtjjedebjbgpimaaGreatLvR3
import Derived.Test.YtjjedebjbgpimaaGreatLvP4
import Derived.Test.YtjjedebjbgpimaaGreatSame13
import Derived.Test.YtjjedebjbgpimaaGreatKOpen
import Derived.OwnWalk
namespace Go.Proofs.YtjjedebjbgpimaaGreat
open Go.RowKit Mile
set_option maxRecDepth 100000
attribute [local go_sem] Oper.semAt_some
theorem mem_putAll16 (A : List Ar) : ∀ (L : List Ar) (b : Ar), b ∈ A.foldl putN L → b ∈ L ∨ b ∈ A := by
  induction A with
  | nil => exact fun L b h => .inl h
  | cons a A ih =>
    intro L b h
    rcases ih _ b h with h | h
    · unfold putN at h
      split at h
      · rcases mem_newN.1 h with h | h
        · exact .inr (by rw [h]; exact List.mem_cons_self)
        · exact .inl h.1
      · exact .inl h
    · exact .inr (List.mem_cons_of_mem _ h)
theorem arcsR_in16 (n : Int) (T : List T3) : ∀ a ∈ arcsR n T, a.m = -1 ∧ 1 ≤ a.w ∧ a.w ≤ 20 := by
  intro a ha
  unfold arcsR at ha
  split at ha
  · unfold arcsL at ha
    obtain ⟨x, _, hx⟩ := List.mem_flatMap.1 ha
    unfold arcT at hx
    split at hx
    · cases hx
    · rw [List.mem_singleton] at hx
      subst hx
      refine ⟨rfl, ?_, ?_⟩ <;> simp only <;> omega
  · cases ha
/-- A law's net. -/
def net16 (n : Nat) (T : List T3) : List Ar := putAllN (arcsR (n : Int) T)
theorem net16_in (n : Nat) (T : List T3) : ∀ a ∈ net16 n T, a.m = -1 ∧ 1 ≤ a.w ∧ a.w ≤ 20 := fun a ha => arcsR_in16 (n : Int) T a ((mem_putAll16 _ [] a ha).elim (fun h => by cases h) id)
theorem net16_ok (n : Nat) (T : List T3) : NetOk n (net16 n T) := (putAll_ok (arcsR (n : Int) T) [] (NetOk.nil n) (arcsR_may T)).1
/-- What built tells. -/
def Bu16P (n : Nat) (P : List Ar → Nat → Int → List Int) (L : List Ar) (w : World) (e : Ending) (w' : World) : Prop :=
  ∃ p F p2 tq rd m, e = .returned (.tuple #[.pointer (some ⟨p, 0, none⟩), .pointer (some ⟨p2, 0, none⟩), .pointer (some ⟨m, 0, none⟩)]) ∧ LO w' p n (bAt n P L n).T (bAt n P L n).V F ∧ RL w' p2 tq rd n (bAt n P L n).T (bAt n P L n).V ∧ RN w' m n L ∧ Mod (fun _ => False) w w'
set_option maxHeartbeats 4000000 in
theorem built16_any (w : World) (n : Nat) (hn : n ≤ 100) (a : Option Addr) (ln c : Nat) (T : List T3) (hT : T.length = ln) (hr : Rd w 3 (.slice a ln c) ln (T.flatMap c3T)) (hb : ln ≤ 1000) (P : List Ar → Nat → Int → List Int) (hP : ∀ L, DOk n L (P L)) :
    Calls Tryz.prog 14 #[.int .i64 (n : Int), .slice a ln c] w (Bu16P n P (net16 n T) w) := by
  have HMD := Lib.hid (made16_any w n (by omega) a ln c T hT hr hb)
  have HOK := Lib.hid (net16_ok n T)
  have HIN := Lib.hid (net16_in n T)
  have HP := Lib.hid hP
  obtain ⟨L, hL⟩ : ∃ L, net16 n T = L := ⟨_, rfl⟩
  rw [hL] at HOK HIN ⊢
  rw [show putAllN (arcsR (n : Int) T) = L from hL] at HMD
  clear hT hr hP hL
  go_enter Tryz.func14, Tryz.ntmps14
  go_wp2_with fail
  refine HMD.out.mono ?_
  rintro e w1 ⟨q, F, m, rfl, hnt, hrn, _, _, hm⟩
  have HB := Lib.hid (build_any hnt (fun a ha => by have := (HIN.out a ha).1; omega) P HP.out)
  have HN := Lib.hid (And.intro hrn hm)
  clear hnt hrn hm HMD
  go_wp2_with fail
  refine HB.out.mono ?_
  rintro e w2 ⟨p, F2, rfl, hlo, _, hm2⟩
  have HR := Lib.hid (rn_build (HN.out.1.later hm2) HOK.out hn P HP.out)
  have HL := Lib.hid (And.intro hlo hm2)
  clear hlo hm2 HB
  go_wp2_with fail
  refine HR.out.mono ?_
  rintro e w3 ⟨p2, tq, rd, rfl, hrl, hm3⟩
  have HX := Lib.hid (And.intro hrl hm3)
  clear hrl hm3 HR
  go_wp2_with fail
  go_ret3
  exact ⟨p, F2, p2, tq, rd, m, rfl, HL.out.1.later HX.out.2, HX.out.1, HN.out.1.later (HL.out.2.of2 HX.out.2), (HN.out.2.of2 HL.out.2).of2 HX.out.2⟩
theorem pick16 (n : Nat) (hn : n ≤ 512) : ∃ P : List Ar → Nat → Int → List Int, ∀ L, DOk n L (P L) := Classical.axiomOfChoice fun L => DOk.ex n hn L
def fixB16 (n : Nat) (L : List Ar) (fr wo : Int) (d : List Int) : Bool :=
  decide (d.length = n) && d.all (fun x => decide (-1 ≤ x)) && (List.range n).all (fun e => decide (¬ ((e : Int) = fr ∧ fr ≠ wo) ∨ dAt d e = 0)) &&
  (List.range n).all (fun e => decide (dAt d e < 0 ∨ ((e : Int) = fr ∧ fr ≠ wo ∧ dAt d e = 0)) || L.any (fun a => decide (a.t = e ∧ a.t ≠ wo ∧ 0 ≤ dAt d a.f.toNat ∧ dAt d e = dAt d a.f.toNat + a.w))) &&
  L.all (fun a => decide (a.t = wo ∨ dAt d a.f.toNat < 0 ∨ (0 ≤ dAt d a.t.toNat ∧ dAt d a.t.toNat ≤ dAt d a.f.toNat + a.w)))
theorem fix_of16 {n : Nat} {L : List Ar} {fr wo : Int} {d : List Int} (hok : NetOk n L) (hw : ∀ a ∈ L, a.w ≤ 1099511627776) (h : fixB16 n L fr wo d = true) : Fix (netW n L fr wo) d := by
  unfold fixB16 at h
  simp only [Bool.and_eq_true, Bool.or_eq_true, List.all_eq_true, List.any_eq_true, decide_eq_true_eq, List.mem_range] at h
  obtain ⟨⟨⟨⟨h1, h2⟩, h3⟩, h4⟩, h5⟩ := h
  refine ⟨h1, fun e => ?_, fun e he hm => ?_, fun e h0 => ?_, fun e b hr hb => ?_⟩
  · by_cases he : e < d.length
    · rw [dAt_eq d e he]; exact h2 _ (List.getElem_mem he)
    · rw [dAt_out d e (by omega)]; omega
  · exact (h3 e hm).elim (fun x => absurd he x) id
  · have he : e < n := by rw [← h1]; exact dAt_in h0
    rcases h4 e he with (h6 | h6) | ⟨a, ha, h6, h7, h8, h9⟩
    · omega
    · exact .inl ⟨⟨h6.1, h6.2.1⟩, h6.2.2⟩
    · have hm := hok.may a ha
      unfold mayA at hm
      have hf : a.f = (a.f.toNat : Nat) := by omega
      exact .inr ⟨a.f.toNat, netW_rl hok hw ha h6 hf h7, h8, by rw [netW_wt hok.sort ha h6 hf]; exact h9⟩
  · obtain ⟨a, ha, ht, hf, hwo, hwt⟩ := netW_inv hr
    rw [hwt]
    have e1 : a.f.toNat = b := by omega
    have e2 : a.t.toNat = e := by omega
    rcases h5 a ha with h6 | h6 | h6
    · exact absurd h6 hwo
    · rw [e1] at h6; omega
    · rw [e1, e2] at h6; exact h6
def la16 : List Ar := [⟨0, 1, 1, -1⟩, ⟨1, 2, 1, -1⟩]
theorem la16_eq : net16 3 [(0, 1, 0), (1, 2, 0)] = la16 := by kernel_rfl
theorem la16_ok : NetOk 3 la16 := by rw [← la16_eq]; exact net16_ok 3 _
theorem la16_w : ∀ a ∈ la16, a.w ≤ 1099511627776 := by decide
theorem la16_f : fixB16 3 la16 0 1 [0, -1, -1] = true := by decide
section
variable {P : List Ar → Nat → Int → List Int}
theorem la16_sc (hP : ∀ L, DOk 3 L (P L)) : scR (P la16) la16 1 = [⟨0, 2, 2, 1⟩] := by
  have h01 : P la16 0 1 = [0, -1, -1] := (hP la16 0 1).uniq (fix_of16 la16_ok la16_w la16_f)
  have e : ovB (P la16) 1 ⟨0, 1, 1, -1⟩ ⟨1, 2, 1, -1⟩ = false := by
    show foundB (P la16 0 1) 2 (1 + 1) 30 = false
    rw [h01]; decide
  show (([⟨0, 1, 1, -1⟩] : List Ar).flatMap fun a => ((([⟨1, 2, 1, -1⟩] : List Ar).filter fun b => !(ovB (P la16) 1 a b)).map fun b => (⟨a.f, b.t, a.w + b.w, 1⟩ : Ar))) = _
  simp [e]
theorem la16_w1 (hP : ∀ L, DOk 3 L (P L)) : wthR (P la16) la16 1 = -1 := by unfold wthR; rw [la16_sc hP]; decide
theorem la16_w0 : wthR (P la16) la16 0 = -1 := by
  have h : scR (P la16) la16 0 = [] := rfl
  unfold wthR; rw [h]; decide
theorem la16_w2 : wthR (P la16) la16 2 = -1 := by
  have h : scR (P la16) la16 2 = [] := rfl
  unfold wthR; rw [h]; decide
theorem la16_first (hP : ∀ L, DOk 3 L (P L)) : bV 3 P la16 0 = 0 := by
  have h1 := la16_w1 hP
  show (firN (fun v => wthR (P la16) la16 (v : Int)) (gonB (dnL 3 [])) 3).1.toNat = 0
  rw [firN_step, firN_step, firN_step]
  unfold firT
  simp [gonB, dnL, firN, la16_w0, h1, la16_w2]
end
set_option maxHeartbeats 16000000 in
theorem awake16_any (w : World) : Calls Tryz.prog 13 #[] w fun e w' => e = .returned (.bool true) ∧ Mod (fun _ => False) w w' := by
  obtain ⟨P, hP⟩ := pick16 3 (by omega)
  have HMD := Lib.hid (fun W a c hr => built16_any W 3 (by omega) a 2 c [(0, 1, 0), (1, 2, 0)] rfl hr (by omega) P hP)
  have hf := la16_first hP
  have hr0 : rankV 3 (bAt 3 P la16 3).V 0 = 0 := by
    have h1 := rankV_in (n := 3) (V := (bAt 3 P la16 3).V) (v := 0) (by omega) (bAt_all P la16_ok (by omega))
    have h2 := rank_bV P la16_ok (k := 0) (by omega)
    rw [hf] at h2
    rw [h2] at h1
    exact h1
  have hr5 : rankV 3 (bAt 3 P la16 3).V 5 = -1 := by unfold rankV; rw [if_neg (by omega)]
  have hup : (upV 3 (bAt 3 P la16 3).T (bAt 3 P la16 3).V 0).length = 1 := by
    have h1 := up_eq P la16_ok (k := 0) (by omega)
    rw [hf] at h1
    rw [show ((0 : Nat) : Int) = 0 from rfl] at h1
    rw [h1]
    rfl
  have hall := bAt_two (n := 3) P 3 (L := la16) (x := ⟨0, 1, 1, -1⟩) (y := ⟨1, 2, 1, -1⟩) (by unfold la16; simp) (by unfold la16; simp) (by decide)
  obtain ⟨T, hT⟩ : ∃ y, (bAt 3 P la16 3).T = y := ⟨_, rfl⟩
  obtain ⟨V, hV⟩ : ∃ y, (bAt 3 P la16 3).V = y := ⟨_, rfl⟩
  rw [hT, hV] at hup
  rw [hT] at hall
  rw [hV] at hr0 hr5
  unfold Bu16P at HMD
  rw [la16_eq, hT, hV] at HMD
  have HX := Lib.hid (And.intro hr0 (And.intro hr5 (And.intro hup hall)))
  clear hP hf hr0 hr5 hup hall hT hV
  go_enter Tryz.func13, Tryz.ntmps13
  go_wp2_with fail
  refine (HMD.out _ _ 2 (by exact Rd.litN 75 3 [.int .i64 0, .int .i64 1, .int .i64 0, .int .i64 1, .int .i64 2, .int .i64 0] (0, 0) _ 2 (by first | rfl | simp) rfl (by decide))).mono ?_
  rintro e w1 ⟨p, F, p2, tq, rd, m, rfl, hlo, _, _, hm⟩
  have hm1 : Mod (fun _ => False) w w1 := (Mod.alloc _ _ _).of2 hm
  have HL := Lib.hid hlo
  have HM1 := Lib.hid hm1
  have HR0 := Lib.hid (lv_rank hlo 0 0 HX.out.1)
  clear hlo hm hm1
  go_wp2_with fail
  refine HR0.out.mono ?_
  rintro e w2 ⟨rfl, rfl⟩
  have HR5 := Lib.hid (lv_rank HL.out 5 (-1) HX.out.2.1)
  clear HR0
  go_wp2_with fail
  refine HR5.out.mono ?_
  rintro e w2 ⟨rfl, rfl⟩
  have HU := Lib.hid (lv_up HL.out 0)
  unfold UpP at HU
  rw [HX.out.2.2.1] at HU
  clear HR5
  go_wp2_with fail
  refine HU.out.mono ?_
  rintro e w2 ⟨a2, c2, rfl, _, hm2⟩
  have HL2 := Lib.hid (HL.out.later hm2)
  obtain ⟨tl, rd2, mb, FT, hlv, _⟩ := HL2.out
  have q0 := hlv.blk.cell 0 rfl
  have HA := Lib.hid (nt_all hlv.net)
  obtain ⟨tn, htn⟩ : ∃ y, T.length = y := ⟨_, rfl⟩
  unfold NewR at HA
  rw [htn] at HA
  have htn2 : 2 ≤ tn := by have := HX.out.2.2.2; omega
  have z2 : decide ((2 : Int) ≤ (tn : Int)) = true := by simp; omega
  have HM2 := Lib.hid (HM1.out.of2 hm2)
  clear hlv hm2 HU
  go_wp2_with fail
  refine HA.out.mono ?_
  rintro e w3 ⟨a3, c3, rfl, _, hm3⟩
  have HM3 := Lib.hid (HM2.out.of2 hm3)
  clear hm3 HA q0
  go_wp2_with fail
  refine (build_nil _).mono ?_
  rintro e w4 ⟨rfl, rfl⟩
  go_wp2_with fail
  refine (lv_rank_nil _ _).mono ?_
  rintro e w4 ⟨rfl, rfl⟩
  go_wp2_with fail
  refine (lv_up_nil _ _).mono ?_
  rintro e w4 ⟨rfl, hm4⟩
  have HM4 := Lib.hid (HM3.out.of2 hm4)
  clear hm4
  go_wp2_with fail
  refine (lv_cuts_nil _).mono ?_
  rintro e w5 ⟨rfl, rfl⟩
  go_wp2_with fail
  go_ret
  exact ⟨rfl, HM4.out⟩
end Go.Proofs.YtjjedebjbgpimaaGreat
