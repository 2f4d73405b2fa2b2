/- sender's Body, Send, by contract. -/
import Derived.Test.YtdahoecejnnjkaaSd1
namespace Go.Proofs.Ytdahoecejnnjkaa
open Go.RowKit Mile Go.Maps
set_option maxRecDepth 100000
theorem rdV {w : World} {n c : Nat} {a : Option Addr} {S : List Value} (h : Rd w 1 (.slice a n c) n S) (i : Nat) (hi : i < S.length) :
    ∃ b o, elemA a i 1 = ⟨b, o, none⟩ ∧ w.cell? ⟨b, o, none⟩ = some S[i] := by
  have hn : n = S.length := by have := h.1; omega
  obtain ⟨b, o, hp, _⟩ := h.place (j := i) (by omega)
  exact ⟨b, o, hp, by have := h.elem (j := i) (u := S[i]) (by simp [hi]); rwa [hp] at this⟩
theorem BodyT.rd {w : World} {b : List Int} {v : Value} (h : BodyT w b v) : Rd w 1 v b.length (b.map (Value.int .u8)) := by
  obtain ⟨a, n, c, rfl, hn, ho⟩ := h
  rw [hn]; exact Rd.ofOwn ho
section
variable {w : World} {p tp : Nat} {tb : Option Nat} {W F : Nat} {a : Option Addr} {n c : Nat} {over : Bool} {B M R : Nat} {L : List Wt} {us : UdL}
theorem sdbody_nil (w : World) (q : Int) : Calls Try.prog 57 #[.pointer none, .int .i64 q] w fun e w' => e = .returned (.tuple #[.slice none 0 0, .bool false]) ∧ w = w' := by
  go_enter Try.func57, Try.ntmps57
  go_wp2_with fail
  go_ret2
  exact ⟨rfl, rfl⟩
theorem sdbody_no (h : SD w p tp tb W F a n c over B M R L us) (hF : F ≤ 1000000000000) (q : Int) (hq : q < (F : Int) ∨ ((F + n : Nat) : Int) ≤ q) : Calls Try.prog 57 #[.pointer (some ⟨p, 0, none⟩), .int .i64 q] w fun e w' => e = .returned (.tuple #[.slice none 0 0, .bool false]) ∧ Mod (fun _ => False) w w' := by
  have c2 := h.blk.cell 2 rfl
  by_cases h1 : q < (F : Int)
  · have z0 : decide (q < (F : Int)) = true := by simpa using h1
    clear h hq h1
    go_enter Try.func57, Try.ntmps57
    go_wp2_with fail
    go_ret2
    exact ⟨rfl, Mod.refl _ _⟩
  · have z0 : decide (q < (F : Int)) = false := by simpa using h1
    have hs := sdseq_any h hF
    obtain ⟨r, hr⟩ : ∃ r, ((F + n : Nat) : Int) = r := ⟨_, rfl⟩
    rw [hr] at hs hq
    have z1 : decide (r ≤ q) = true := by have := hq.resolve_left h1; simpa using this
    have HS := Lib.hid hs
    clear h hq h1 hs hr
    go_enter Try.func57, Try.ntmps57
    go_wp2_with fail
    refine HS.out.mono ?_
    rintro e w1 ⟨rfl, hm⟩
    have HM := Lib.hid hm
    clear hm
    go_wp2_with fail
    go_ret2
    exact ⟨rfl, HM.out⟩
set_option maxHeartbeats 4000000 in
theorem sdbody_at (h : SD w p tp tb W F a n c over B M R L us) (hF : F ≤ 1000000000000) (k : Nat) (hk : k < us.length) (hbd : (us[k]).1.length ≤ 1000000000) (q : Int) (hq : q = (F : Int) + (k : Int)) : Calls Try.prog 57 #[.pointer (some ⟨p, 0, none⟩), .int .i64 q] w fun e w' => ∃ v, e = .returned (.tuple #[v, .bool true]) ∧ Fresh w' w.heap.size v (us[k]).1 ∧ (∃ a' c', v = .slice a' (us[k]).1.length c') ∧ Mod (fun _ => False) w w' := by
  obtain ⟨iB, hiB, hzB, hsB, hbB⟩ := info_parts Sd.infoB
  have hn : us.length = n := h.len
  have hnW := h.nW
  have hW := h.w16
  have hs := sdseq_any h hF
  obtain ⟨r, hr⟩ : ∃ r, ((F + n : Nat) : Int) = r := ⟨_, rfl⟩
  rw [hr] at hs
  have z0 : decide (q < (F : Int)) = false := by simp; omega
  have z1 : decide (r ≤ q) = false := by simp; omega
  have hwr : IntKind.i64.wrap (q - (F : Int)) = (k : Int) := by rw [IntWalk.i64_in _ (by omega)]; omega
  have hkn : k < n := by omega
  have c2 := h.blk.cell 2 rfl
  obtain ⟨bs, hbs⟩ : ∃ x, (us[k]).1 = x := ⟨_, rfl⟩
  obtain ⟨bv, hbv⟩ : ∃ x, (us[k]).2 = x := ⟨_, rfl⟩
  rw [hbs] at hbd ⊢
  have HBS := Lib.hid hbs
  have HBV := Lib.hid hbv
  clear hbs hbv
  have HS := Lib.hid hs
  have HH := Lib.hid h
  have HQ := Lib.hid hq
  have HR := Lib.hid hr
  have HN := Lib.hid hn
  clear h hs hq hr hn
  go_enter Try.func57, Try.ntmps57
  go_wp2_with fail
  refine HS.out.mono ?_
  rintro e w1 ⟨rfl, hm⟩
  have HM := Lib.hid hm
  clear c2 hm
  have hh := HH.out.later HM.out
  have c2 := hh.blk.cell 2 rfl
  have c3 := hh.blk.cell 3 rfl
  obtain ⟨eb, eo, hpl, e0⟩ := rdV (Rd.ofOwn hh.own) k (by rw [List.length_map]; exact hk)
  rw [List.getElem_map] at e0
  have hix := fun wx => run_indexS (P := Try.prog) wx 48 38 iB 1 Try.underlying48 hiB hsB a n c k hkn ((Rd.ofOwn hh.own).some_ (by omega))
  rw [hpl] at hix
  have hbt := hh.bodies _ (List.getElem_mem hk)
  rw [HBS.out, HBV.out] at hbt
  rw [HBV.out] at e0
  have HRD := Lib.hid hbt.rd
  obtain ⟨ab, nb, cb, rfl, _⟩ := hbt
  clear hh hpl
  go_wp2_with fail
  go_region_with (go_at_call 35; refine (clone_any _ (.slice ab nb cb) bs (HRD.out.keep (Mod.drew (fun _ => False) _) (fun _ _ e => e)) hbd).mono ?_; rintro e w2 ⟨v', rfl, hf, hm, av, cv, hv⟩; have HF := Lib.hid hf; have HM2 := Lib.hid hm; have HV := Lib.hid hv; clear hf hm hv)
  all_goals
    go_wp2_with fail
    go_ret2
    exact ⟨v', rfl, Own.base HF.out (by have := HM.out.size; simpa using this), ⟨av, cv, HV.out⟩, (HM.out.trans (Mod.drew (fun _ => False) _) (fun _ _ e => e) (fun _ _ e => e.elim)).trans HM2.out (fun _ _ e => e) (fun _ _ e => e.elim)⟩
end
end Go.Proofs.Ytdahoecejnnjkaa
