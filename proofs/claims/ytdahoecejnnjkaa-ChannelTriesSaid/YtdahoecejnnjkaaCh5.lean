/- channel's Push, by contract. -/
import Derived.Test.YtdahoecejnnjkaaCh4
namespace Go.Proofs.Ytdahoecejnnjkaa
open Go.RowKit Mile Go.Maps
set_option maxRecDepth 100000
section
variable {w : World} {p sp tp : Nat} {tb : Option Nat} {a : Option Addr} {c : Nat} {us : UdL} {kp kr : Nat} {ao : Option Addr} {co : Nat} {ou : UdL} {W B M R : Nat} {conn : Int} {x : ChS}
theorem ChQ.after {w1 w' : World} {tb1 : Option Nat} {a1 ao1 : Option Addr} (hq : ChQ p sp tp tb1 a1 kp kr ao1 W B M R conn x w1 w') (hn : ∀ k, chF p sp tp tb1 a1 kp kr ao1 k → chF p sp tp tb a kp kr ao k ∨ w.heap.size ≤ k) (hm : Mod (chF p sp tp tb a kp kr ao) w w1) : ChQ p sp tp tb a kp kr ao W B M R conn x w w' := by
  obtain ⟨tb', a', c', us', ao', co', ou', h1, h2, h3⟩ := hq
  have hs := hm.size
  exact ⟨tb', a', c', us', ao', co', ou', h1, fun k hk => (h2 k hk).elim (hn k) (fun e => .inr (by omega)), hm.trans h3 (fun _ _ e => e) (fun k hk e => (hn k e).elim id (fun g => by omega))⟩
theorem PayO.after {w1 w' : World} {ack : Int} {q : Nat} {gs : List (List Int)} {ag : Option Addr} {m cg : Nat} {gl : UdL} (h : PayO w1 w' conn ack q gs ag m cg gl) (hs : w.heap.size ≤ w1.heap.size) : PayO w w' conn ack q gs ag m cg gl :=
  ⟨h.eq, h.len, Own.base h.own hs, fun u hu => ⟨(h.bodies u hu).1, fun k hk => Nat.le_trans hs ((h.bodies u hu).2 k hk)⟩⟩
theorem chpush_nil (w : World) (now : Int) (v : Value) : Calls Try.prog 13 #[.pointer none, .int .i64 now, v] w fun e w' => e = .returned (.tuple #[.slice none 0 0, .int .i64 6]) ∧ w = w' := by
  go_enter Try.func13, Try.ntmps13
  go_wp2_with fail
  refine (chgone_nil w).mono ?_
  rintro e w' ⟨rfl, rfl⟩
  go_wp2_with fail
  go_ret2
  exact ⟨rfl, rfl⟩
theorem chpush_over (h : CHm w p sp tp tb a c us kp kr ao co ou W B M R conn x) (ho : x.o = true) (now : Int) (v : Value) : Calls Try.prog 13 #[.pointer (some ⟨p, 0, none⟩), .int .i64 now, v] w fun e w' => e = .returned (.tuple #[.slice none 0 0, .int .i64 6]) ∧ w = w' := by
  have hg := chgone_any h
  rw [ho] at hg
  have HG := Lib.hid hg
  clear h hg ho
  go_enter Try.func13, Try.ntmps13
  go_wp2_with fail
  refine HG.out.mono ?_
  rintro e w' ⟨rfl, rfl⟩
  go_wp2_with fail
  go_ret2
  exact ⟨rfl, rfl⟩
theorem chpush_full (h : CHm w p sp tp tb a c us kp kr ao co ou W B M R conn x) (ho : x.o = false) (hf : 64 ≤ x.os.length) (now : Int) (v : Value) : Calls Try.prog 13 #[.pointer (some ⟨p, 0, none⟩), .int .i64 now, v] w fun e w' => e = .returned (.tuple #[.slice none 0 0, .int .i64 5]) ∧ w = w' := by
  have hg := chgone_any h
  rw [ho] at hg
  have HG := Lib.hid hg
  have c3 := h.blk.cell 3 rfl
  obtain ⟨n1, hn1⟩ : ∃ y, x.os.length = y := ⟨_, rfl⟩
  rw [hn1] at c3 hf
  have z0 : decide (64 ≤ (n1 : Int)) = true := by simp; omega
  have z1 : decide (64 ≤ n1) = true := by simpa using hf
  clear h hg ho hn1
  go_enter Try.func13, Try.ntmps13
  go_wp2_with fail
  refine HG.out.mono ?_
  rintro e w' ⟨rfl, rfl⟩
  go_wp2_with fail
  go_ret2
  exact ⟨rfl, rfl⟩
/-- A Channel that owes one more. -/
def oweS (x : ChS) (b : List Int) : ChS := ⟨x.F, x.o, x.L, x.bs, x.N, x.f, x.os ++ [b]⟩
/-- What Push leaves and tells. -/
def PushP (p sp tp : Nat) (tb : Option Nat) (a : Option Addr) (kp kr : Nat) (ao : Option Addr) (W B M R : Nat) (conn : Int) (x : ChS) (now : Int) (w : World) (e : Ending) (w' : World) : Prop :=
  ∃ ag cg gl, e = .returned (.tuple #[.slice ag (payN W x) cg, .int .i64 0]) ∧ PayO w w' conn (x.N : Int) (x.F + x.bs.length) (x.os.take (payN W x)) ag (payN W x) cg gl ∧ ChQ p sp tp tb a kp kr ao W B M R conn (payS x B now (payN W x)) w w'
set_option maxHeartbeats 8000000 in
theorem chpush_any (h : CHm w p sp tp tb a c us kp kr ao co ou W B M R conn x) (ho : x.o = false) (hos : x.os.length < 64) (hF : x.F ≤ 1000000000) (hL : x.L.length ≤ 100000) (hbd : ∀ b ∈ x.os, b.length ≤ 1000000) (now : Int) (hnow : -1000000000000000000 ≤ now ∧ now ≤ 1000000000000000000) (b : List Int) (bv : Value) (hrd : Rd w 1 bv b.length (b.map (Value.int .u8))) (hb : b.length ≤ 1000000) :
    Calls Try.prog 13 #[.pointer (some ⟨p, 0, none⟩), .int .i64 now, bv] w fun e w' => PushP p sp tp tb a kp kr ao W B M R conn (oweS x b) now w e w' := by
  obtain ⟨iB, hiB, hzB, hsB, hbB⟩ := info_parts Sd.infoB
  have hg := chgone_any h
  rw [ho] at hg
  have HG := Lib.hid hg
  obtain ⟨n1, hn1⟩ : ∃ y, x.os.length = y := ⟨_, rfl⟩
  have c3 := h.blk.cell 3 rfl
  rw [hn1] at c3 hos
  have z0 : decide (64 ≤ (n1 : Int)) = false := by simp; omega
  have z1 : decide (64 ≤ n1) = false := by simp; omega
  have hmx1 : n1 + 1 ≤ maxLen := by unfold maxLen; omega
  have hmx2 : (n1 + 1) * 24 ≤ 140737488355328 := by omega
  have hbw : b.length ≤ 1000000000 := by omega
  have HN1 := Lib.hid hn1
  have HRD := Lib.hid (hrd.keep (Mod.drew (fun _ => False) w) (fun _ _ e => e))
  have HH := Lib.hid (h.later (Mod.drew (fun _ => False) w))
  have HX := Lib.hid (⟨hF, hL, hbd, hnow, hb⟩ : _ ∧ _ ∧ _ ∧ _ ∧ _)
  clear h hg ho hn1 hrd hF hL hbd hnow
  go_enter Try.func13, Try.ntmps13
  go_wp2_with fail
  refine HG.out.mono ?_
  rintro e w' ⟨rfl, rfl⟩
  go_upto_region 5 with fail
  clear HG
  go_region_law (first | (refine step_append_any rfl (.tmp 20) (.tmp 23) 48 rfl 38 iB (.slice none 0 0) 1 24 Try.underlying48 hiB hzB hsB hbB rfl (by decide) (.slice ao n1 co) n1 (ou.map (·.2)) (by simp [Act.eval, Act.put]) (by rw [← HN1.out]; exact HSL.out.own) (.slice (some ⟨wb.heap.size, 0, none⟩) 1 1) 1 [.slice av b.length cv] (by simp [Act.eval, Act.put]) (by exact Rd.lit 38 [.slice av b.length cv] (0, 0) _ 1 rfl rfl (by decide)) (by simp [Value.oneCell']) hmx1 hmx2 ?_; intro v' w' hap; obtain ⟨a3, c3', rfl⟩ := hap.form; have hgw := HSL.out.blk.keep hap.mod (fun e => (TyB.blk HSL.out.blk).ne (HSL.out.tyo (by rw [← e]; exact own_slice ao 0 0 n1 co)) (by decide) rfl); have qw3 := hgw.cell 3 rfl; have fw3 := hgw.free 3; have lw := hgw.lt; have HAP := Lib.hid hap; clear hap hgw) | (go_simp; go_at_call 35; refine (clone_any _ bv b HRD.out hbw).mono ?_; rintro e wb ⟨v', rfl, hf, hm, av, cv, rfl⟩; have hsb := HH.out.later hm; have qb3 : wb.cell? ⟨p, 3, none⟩ = some (.slice ao n1 co) := (by rw [← HN1.out]; exact hsb.blk.cell 3 rfl); have fb3 := hsb.blk.free 3; have lb := hsb.blk.lt; have HVF := Lib.hid hf; have hbt : BodyT wb b (.slice av b.length cv) := ⟨av, b.length, cv, rfl, rfl, Own.base hf (Nat.zero_le _)⟩; have HBT := Lib.hid (hbt.keep (Mod.alloc (fun _ => False) wb (.cells #[.slice av b.length cv] 38)) (fun _ _ e => e.elim)); have HSL := Lib.hid (hsb.later (Mod.alloc (fun _ => False) wb (.cells #[.slice av b.length cv] 38))); have HMB := Lib.hid ((hm.trans (Mod.alloc (fun _ => False) wb (.cells #[.slice av b.length cv] 38)) (fun _ _ e => e) (fun _ _ e => e))); clear hsb hf hm hbt))
  all_goals
    have hG5 : ∀ k, (Value.slice ao n1 co).ownBlock = some k → (Value.slice ao 0 0).ownBlock = some k := fun k hk => by rw [← hk]; exact own_slice ao 0 0 n1 co
    have hT5 : ∀ k, k < (World.heap (wb.alloc (.cells #[.slice av b.length cv] 38))).size → (Value.slice ao n1 co).ownBlock = some k → NoT _ k := fun k _ hk => (HSL.out.tyo (hG5 k hk)).noT (by decide)
    have hlen : n1 + 1 = (ou ++ [(b, Value.slice av b.length cv)]).length := by have h1 := congrArg List.length HSL.out.ho; rw [List.length_map, HN1.out] at h1; simp; omega
    have howe := HSL.out.owes (w5 := w') (ao' := a3) (co' := c3') (ou' := ou ++ [(b, Value.slice av b.length cv)]) (by rw [← hlen, List.map_append]; exact HAP.out.own) (fun u hu => by
      rcases List.mem_append.1 hu with hu | hu
      · exact (HSL.out.bodies u hu).keep HAP.out.mod hT5
      · rw [List.mem_singleton] at hu
        rw [hu]
        exact HBT.out.keep HAP.out.mod hT5) HAP.out.mod hG5 (fun k hk => by
      rcases HAP.out.row k (by rw [← hk]; exact own_slice a3 _ _ 0 0) with g | g
      · exact .inl (hG5 k g)
      · exact .inr g)
    rw [← hlen] at howe
    obtain ⟨hsd, hmd⟩ := howe
    have hst : (⟨x.F, x.o, x.L, x.bs, x.N, x.f, (ou ++ [(b, Value.slice av b.length cv)]).map (·.1)⟩ : ChS) = oweS x b := by rw [List.map_append, HSL.out.ho]; rfl
    rw [hst] at hsd
    have hn7 : ∀ k, chF p sp tp tb a kp kr a3 k → chF p sp tp tb a kp kr ao k ∨ w.heap.size ≤ k := fun k hk => by
      rcases hk with e | e | e | e | e
      · exact .inl (.inl e)
      · exact .inl (.inr (.inl e))
      · exact .inl (.inr (.inr (.inl e)))
      · exact .inl (.inr (.inr (.inr (.inl e))))
      · rcases HAP.out.row k (by rw [← e]; exact own_slice a3 _ _ 0 0) with g | g
        · exact .inl (.inr (.inr (.inr (.inr (hG5 k g)))))
        · exact .inr (by have h2 := HMB.out.size; have h3 : (World.drew w).heap.size = w.heap.size := rfl; omega)
    obtain ⟨wx, hwx⟩ : ∃ x, w'.setCell ⟨p, 3, none⟩ (.slice a3 (n1 + 1) c3') = x := ⟨_, rfl⟩
    rw [hwx] at hsd hmd ⊢
    have hMx : Mod (chF p sp tp tb a kp kr ao) w wx := ((Mod.drew (fun _ => False) w).trans HMB.out (H := fun _ => False) (fun _ _ e => e) (fun _ _ e => e)).trans hmd (fun _ _ e => e.elim) (fun _ _ e => e.elim .inl (fun e => .inr (.inr (.inr (.inr e)))))
    have HSD := Lib.hid hsd
    have HN7 := Lib.hid hn7
    have HMX := Lib.hid hMx
    clear hsd hmd hwx hn7 hMx hst hlen hG5 hT5 qw3 fw3 lw qb3 fb3 lb c3 HAP HSL HBT
    have hpay := chpay_any HSD.out HX.out.1 (by show (x.os ++ [b]).length ≤ _; rw [List.length_append, HN1.out]; simp; omega) HX.out.2.1 (fun z hz => by
      rcases List.mem_append.1 hz with hz | hz
      · exact HX.out.2.2.1 z hz
      · rw [List.mem_singleton] at hz; rw [hz]; exact HX.out.2.2.2.2) now HX.out.2.2.2.1
    have HPAY := Lib.hid hpay
    clear hpay
    go_wp2_with fail
    refine HPAY.out.mono ?_
    rintro e w9 ⟨ag, cg, gl, rfl, hpo, hq⟩
    have HPO := Lib.hid hpo
    have HQ := Lib.hid hq
    clear hpo hq
    go_wp2_with fail
    go_ret2
    exact ⟨ag, cg, gl, rfl, HPO.out.after HMX.out.size, HQ.out.after HN7.out HMX.out⟩
end
end Go.Proofs.Ytdahoecejnnjkaa
