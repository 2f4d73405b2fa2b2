/- Law 17's built, and what its nets are. -/
import Derived.Test.YtjjedebjbgpimaaGreatKMd
import Derived.Test.YtjjedebjbgpimaaGreatLvR3
import Derived.Test.YtjjedebjbgpimaaGreatLvP4
import Derived.Test.YtjjedebjbgpimaaGreatSame13
import Derived.Test.YtjjedebjbgpimaaGreatKOpen
import Derived.OwnWalk
namespace Go.Proofs.YtjjedebjbgpimaaGreat
open Go.RowKit Mile
set_option maxRecDepth 100000
attribute [local go_sem] Oper.semAt_some
theorem mem_putAll17 (A : List Ar) : ∀ (L : List Ar) (b : Ar), b ∈ A.foldl putN L → b ∈ L ∨ b ∈ A := by
  induction A with
  | nil => exact fun L b h => .inl h
  | cons a A ih =>
    intro L b h
    rcases ih _ b h with h | h
    · unfold putN at h
      split at h
      · rcases mem_newN.1 h with h | h
        · exact .inr (by rw [h]; exact List.mem_cons_self)
        · exact .inl h.1
      · exact .inl h
    · exact .inr (List.mem_cons_of_mem _ h)
theorem arcsR_in17 (n : Int) (T : List T3) : ∀ a ∈ arcsR n T, a.m = -1 ∧ 1 ≤ a.w ∧ a.w ≤ 20 := by
  intro a ha
  unfold arcsR at ha
  split at ha
  · unfold arcsL at ha
    obtain ⟨x, _, hx⟩ := List.mem_flatMap.1 ha
    unfold arcT at hx
    split at hx
    · cases hx
    · rw [List.mem_singleton] at hx
      subst hx
      refine ⟨rfl, ?_, ?_⟩ <;> simp only <;> omega
  · cases ha
def net17 (n : Nat) (T : List T3) : List Ar := putAllN (arcsR (n : Int) T)
theorem net17_in (n : Nat) (T : List T3) : ∀ a ∈ net17 n T, a.m = -1 ∧ 1 ≤ a.w ∧ a.w ≤ 20 := fun a ha => arcsR_in17 (n : Int) T a ((mem_putAll17 _ [] a ha).elim (fun h => by cases h) id)
theorem net17_ok (n : Nat) (T : List T3) : NetOk n (net17 n T) := (putAll_ok (arcsR (n : Int) T) [] (NetOk.nil n) (arcsR_may T)).1
def Bu17P (n : Nat) (P : List Ar → Nat → Int → List Int) (L : List Ar) (w : World) (e : Ending) (w' : World) : Prop :=
  ∃ p F p2 tq rd m, e = .returned (.tuple #[.pointer (some ⟨p, 0, none⟩), .pointer (some ⟨p2, 0, none⟩), .pointer (some ⟨m, 0, none⟩)]) ∧ LO w' p n (bAt n P L n).T (bAt n P L n).V F ∧ RL w' p2 tq rd n (bAt n P L n).T (bAt n P L n).V ∧ RN w' m n L ∧ Mod (fun _ => False) w w'
set_option maxHeartbeats 4000000 in
theorem built17_any (w : World) (n : Nat) (hn : n ≤ 100) (a : Option Addr) (ln c : Nat) (T : List T3) (hT : T.length = ln) (hr : Rd w 3 (.slice a ln c) ln (T.flatMap c3T)) (hb : ln ≤ 1000) (P : List Ar → Nat → Int → List Int) (hP : ∀ L, DOk n L (P L)) :
    Calls Tryz.prog 32 #[.int .i64 (n : Int), .slice a ln c] w (Bu17P n P (net17 n T) w) := by
  have HMD := Lib.hid (made17_any w n (by omega) a ln c T hT hr hb)
  have HOK := Lib.hid (net17_ok n T)
  have HIN := Lib.hid (net17_in n T)
  have HP := Lib.hid hP
  obtain ⟨L, hL⟩ : ∃ L, net17 n T = L := ⟨_, rfl⟩
  rw [hL] at HOK HIN ⊢
  rw [show putAllN (arcsR (n : Int) T) = L from hL] at HMD
  clear hT hr hP hL
  go_enter Tryz.func32, Tryz.ntmps32
  go_wp2_with fail
  refine HMD.out.mono ?_
  rintro e w1 ⟨q, F, m, rfl, hnt, hrn, _, _, hm⟩
  have HB := Lib.hid (build_any hnt (fun a ha => by have := (HIN.out a ha).1; omega) P HP.out)
  have HN := Lib.hid (And.intro hrn hm)
  clear hnt hrn hm HMD
  go_wp2_with fail
  refine HB.out.mono ?_
  rintro e w2 ⟨p, F2, rfl, hlo, _, hm2⟩
  have HR := Lib.hid (rn_build (HN.out.1.later hm2) HOK.out hn P HP.out)
  have HL := Lib.hid (And.intro hlo hm2)
  clear hlo hm2 HB
  go_wp2_with fail
  refine HR.out.mono ?_
  rintro e w3 ⟨p2, tq, rd, rfl, hrl, hm3⟩
  have HX := Lib.hid (And.intro hrl hm3)
  clear hrl hm3 HR
  go_wp2_with fail
  go_ret3
  exact ⟨p, F2, p2, tq, rd, m, rfl, HL.out.1.later HX.out.2, HX.out.1, HN.out.1.later (HL.out.2.of2 HX.out.2), (HN.out.2.of2 HL.out.2).of2 HX.out.2⟩
theorem pick17 (n : Nat) (hn : n ≤ 512) : ∃ P : List Ar → Nat → Int → List Int, ∀ L, DOk n L (P L) := Classical.axiomOfChoice fun L => DOk.ex n hn L
def la17 : List Ar := [⟨0, 1, 1, -1⟩]
theorem la17_eq : net17 2 [(0, 1, 0)] = la17 := by kernel_rfl
theorem la17_ok : NetOk 2 la17 := by rw [← la17_eq]; exact net17_ok 2 _
end Go.Proofs.YtjjedebjbgpimaaGreat
