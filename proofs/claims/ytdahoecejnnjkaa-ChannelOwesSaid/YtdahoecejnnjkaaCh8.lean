/- channel: its taker's Take, as Recv uses it. -/
import Derived.Test.YtdahoecejnnjkaaCh7
namespace Go.Proofs.Ytdahoecejnnjkaa
open Go.RowKit Mile Go.Maps
set_option maxRecDepth 100000
/-- Whether a body of this number is taken. -/
abbrev takeOk (x : ChS) (W : Nat) (sv : Int) : Prop := (x.N : Int) ≤ sv ∧ sv < (x.N : Int) + (W : Int) ∧ x.f sv.toNat = none
/-- What is got by it. -/
def takeL (x : ChS) (W : Nat) (sv : Int) (b : List Int) : List (List Int) := if takeOk x W sv then runL (putH x.f sv.toNat b) W x.N else []
/-- A Channel behind it. -/
def takeC (x : ChS) (W : Nat) (sv : Int) (b : List Int) : ChS := if takeOk x W sv then ⟨x.F, x.o, x.L, x.bs, x.N + (takeL x W sv b).length, fromH (putH x.f sv.toNat b) (x.N + (takeL x W sv b).length), x.os⟩ else x
theorem chtake_any {w : World} {p sp tp : Nat} {tb : Option Nat} {a : Option Addr} {c : Nat} {us : UdL} {kp kr : Nat} {ao : Option Addr} {co : Nat} {ou : UdL} {W B M R : Nat} {conn : Int} {x : ChS} (h : CHm w p sp tp tb a c us kp kr ao co ou W B M R conn x) (hN : x.N ≤ 1000000000) (sv : Int) (ab : Option Addr) (nb cb : Nat) (b : List Int) (hn : b.length = nb) (hr : Rd w 1 (.slice ab nb cb) nb (b.map (Value.int .u8))) (hnb : nb ≤ 100000) :
    Calls Try.prog 39 #[.pointer (some ⟨kp, 0, none⟩), .int .i64 sv, .slice ab nb cb] w fun e w' => ∃ ag cg vs ok, e = .returned (.tuple #[.slice ag (takeL x W sv b).length cg, .bool ok]) ∧ Rd w' 1 (.slice ag (takeL x W sv b).length cg) (takeL x W sv b).length vs ∧ BodiesV w' kp kr (takeL x W sv b) vs ∧ CHm w' p sp tp tb a c us kp kr ao co ou W B M R conn (takeC x W sv b) ∧ Mod (fun k => k = kp ∨ k = kr) w w' ∧ ∀ k, (Value.slice ag (takeL x W sv b).length cg).ownBlock = some k → w.heap.size ≤ k := by
  by_cases hok : takeOk x W sv
  · obtain ⟨s, rfl⟩ := Int.eq_ofNat_of_zero_le (show 0 ≤ sv by have := hok.1; omega)
    have hl : takeL x W (s : Int) b = runL (putH x.f s b) W x.N := by unfold takeL; rw [if_pos hok]; rfl
    have hc : takeC x W (s : Int) b = ⟨x.F, x.o, x.L, x.bs, x.N + (takeL x W (s : Int) b).length, fromH (putH x.f s b) (x.N + (takeL x W (s : Int) b).length), x.os⟩ := by unfold takeC; rw [if_pos hok]; rfl
    refine (tktake_low w kp kr W x.N x.f h.tk (by omega) s (by have := hok.1; have := hok.2.1; omega) hok.2.2 ab nb cb b hn hr hnb).mono ?_
    rintro e w' ⟨ag, n, cg, vs, he, hln, hrd, hbv, htk, hm, hlo⟩
    subst hln
    rw [hc, hl]
    exact ⟨ag, cg, vs, true, he, hrd, hbv, h.took htk hm, hm, hlo⟩
  · have hl : takeL x W sv b = [] := by unfold takeL; rw [if_neg hok]
    have hc : takeC x W sv b = x := by unfold takeC; rw [if_neg hok]
    have hno : sv < (x.N : Int) ∨ (x.N : Int) + (W : Int) ≤ sv ∨ ∃ s : Nat, sv = (s : Int) ∧ x.f s ≠ none := by
      by_cases h1 : (x.N : Int) ≤ sv
      · by_cases h2 : sv < (x.N : Int) + (W : Int)
        · exact .inr (.inr ⟨sv.toNat, by omega, fun h3 => hok ⟨h1, h2, h3⟩⟩)
        · exact .inr (.inl (by omega))
      · exact .inl (by omega)
    refine (tktake_no w kp kr W x.N x.f h.tk (by omega) sv hno ab nb cb).mono ?_
    rintro e w' ⟨he, hm⟩
    rw [hc, hl]
    exact ⟨none, 0, [], false, he, Rd.nil _ _, BodiesV.nil _ _ _, h.later hm, hm.trans (Mod.refl _ _) (fun _ _ e => e.elim) (fun _ _ e => e), fun k hk => by cases hk⟩
end Go.Proofs.Ytdahoecejnnjkaa
