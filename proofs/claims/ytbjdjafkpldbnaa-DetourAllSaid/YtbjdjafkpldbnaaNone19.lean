/- DetourNone walked. -/
import Derived.Test.YtbjdjafkpldbnaaTells19
import Derived.Test.YtbjdjafkpldbnaaMeetP19
import Derived.BigQuiet
import Derived.Deep.DeepCutAuto
import Derived.Deep.CutBlock
namespace Go.Proofs.Ytbjdjafkpldbnaa
open Go.RowKit Mile
set_option maxRecDepth 100000
/-- With all ways out closed. -/
theorem none_facts (G : GD) (hm : May G) (k : Nat) (hk : k < G.E.length) (v : Int) (hv : 0 ≤ v ∧ v < (G.N.length : Int)) (cl : List Bool) (hall : ∀ x ∈ nxtR G (k : Int), clB cl x = true) {x y : Int} (hx : Btw G hm v cl (k : Int) x) (hy : Mts G hm v cl (k : Int) y) :
    ((eAt G (k : Int)).2.1 = v → x = 0 ∧ ∃ i : Nat, i ≤ k ∧ y = (i : Int)) ∧ ((eAt G (k : Int)).2.1 ≠ v → x = -1 ∧ y = -1) := by
  have hin : (0 ≤ v ∧ v < (G.N.length : Int)) ∧ (0 ≤ (k : Int) ∧ (k : Int) < (G.E.length : Int)) := ⟨hv, by omega, by omega⟩
  have hxl := hx.low
  rcases hy with ⟨_, dA, dB, hA, hB, hM⟩ | ⟨h, _⟩
  case inr => exact absurd hin h
  rcases hx with ⟨_, d, hd, hxd⟩ | ⟨h, _⟩
  case inr => exact absurd hin h
  have hxk : x = dAt dB k := by rw [hxd, hd.uniq hB]; rfl
  have hMx : Mee dA dB x G.E.length y := by rw [hxk]; exact hM
  refine ⟨fun h => ?_, fun h => ?_⟩
  · have hB0 := hB.st k h hk
    have hA0 := hA.st k (show (k : Int) = (k : Int) from rfl) hk
    have hok : okM dA dB x k := ⟨by omega, by omega, by omega⟩
    refine ⟨by omega, ?_⟩
    rcases hMx with ⟨i, h2, h3, h4, h5⟩ | ⟨_, h2⟩
    · exact ⟨i, Nat.le_of_not_lt fun hlt => h5 k hlt hok, h3⟩
    · exact absurd hok (h2 k hk)
  · have hx1 : x = -1 := by
      refine Classical.byContradiction fun hn => ?_
      rcases hB.why k (by omega) with ⟨h1, _⟩ | ⟨b, h1, _, _⟩
      · exact h h1
      · have := hall _ (mem_nxt h1.1)
        rw [h1.2] at this; cases this
    exact ⟨hx1, hMx.uniq (Mee.neg (by omega))⟩
theorem clB_set {cs : List Bool} {q : Nat} (hq : q < cs.length) {x : Int} (h : clB cs x = true ∨ x = (q : Int)) : clB (cs.set q true) x = true := by
  have hcl : ∀ (l : List Bool) (j : Nat), j < l.length → clB l (j : Int) = l.getD j false := fun l j hj => by
    unfold clB
    rw [decide_eq_true (by omega), Bool.true_and, Int.toNat_natCast]
  rcases h with h | rfl
  · have h0 : 0 ≤ x := by unfold clB at h; simp at h; omega
    obtain ⟨j, rfl⟩ := Int.eq_ofNat_of_zero_le h0
    have hj : j < cs.length := Classical.byContradiction fun hn => by
      unfold clB at h
      rw [Int.toNat_natCast, List.getD, List.getElem?_eq_none (by omega)] at h
      simp at h
    rw [hcl _ j (by rw [List.length_set]; exact hj), List.getD, List.getElem?_set]
    rw [hcl _ j hj] at h
    by_cases e : q = j
    · subst e; simp [hq]
    · rw [if_neg e]; exact h
  · rw [hcl _ q (by rw [List.length_set]; exact hq), List.getD, List.getElem?_set]; simp [hq]

set_option maxHeartbeats 64000000 in
theorem dnone19_all (w : World) (a0 : Option Addr) (m c0 : Nat) (l : List Int) (hm : l.length = m) (hr : Rd w 1 (.slice a0 m c0) m (l.map (Value.int .i64))) (ev nv : Int) :
    Calls Try.prog 5 #[.slice a0 m c0, .int .i64 ev, .int .i64 nv] w fun e w' => e = .returned (.bool true) ∧ Mod (fun _ => False) w w' := by
  obtain ⟨iI, hiI, hzI, hsI, hbI⟩ := info_parts GR.infoI
  obtain ⟨iE, hiE, hzE, hsE, hbE⟩ := info_parts GR.infoE
  obtain ⟨iB, hiB, hzB, hsB, hbB⟩ := info_parts GR.infoBo
  by_cases hlen0 : m ≤ 100
  case neg =>
    have HS : Hid (Ev (Mod (fun _ => False) w) w) := Lib.hid (Ev.mod w)
    have z0 : decide (100 < (m : Int)) = true := by simp; omega
    have z1 : decide (100 < m) = true := by simp; omega
    go_enter Try.func5, Try.ntmps5
    go_wp2_with fail
    refine (awake19_any _).mono ?_
    rintro e wq1 ⟨rfl, hm⟩
    replace HS := Lib.hid (HS.out.step hm)
    clear hm
    go_wp2_with fail
    go_ret
    exact ⟨rfl, HS.out.now⟩
  have HS : Hid (Ev (Mod (fun _ => False) w) w) := Lib.hid (Ev.mod w)
  have y0 : decide (100 < (m : Int)) = false := by simp; omega
  replace HS := Lib.hid ((Ev.rd hr).and HS.out)
  clear hr
  go_enter Try.func5, Try.ntmps5
  go_wp2_with fail
  refine (made19_any _ a0 m c0 l hm ((HS.out.now).1)).mono ?_
  rintro e wq2 ⟨a1, n1, d1, a2, n2, d2, a3, n3, d3, t, p, B, C, rfl, hg, hto, hmm⟩
  replace HS := Lib.hid (HS.out.step hmm)
  clear hmm
  replace HS := Lib.hid ((Ev.gv hg).and HS.out)
  replace HS := Lib.hid ((Ev.to hto).and HS.out)
  clear hg hto y0
  have hmay := Lib.hid (town_may l)
  have hfew := Lib.hid (town_few l)
  obtain ⟨G, hG⟩ : ∃ G, townG l = G := ⟨_, rfl⟩
  rw [hG] at hmay hfew
  rw [hG] at HS
  clear hG
  have hn := Lib.hid ((HS.out.now).2.1.n)
  have he := Lib.hid ((HS.out.now).2.1.e)
  have hb := Lib.hid ((HS.out.now).2.1.b)
  have h1n : n1 ≤ 16 := by have := hfew.out.1.2; have := hn.out; omega
  have h2n : n2 ≤ 67 := by have := hfew.out.2.1.2; have := he.out; omega
  have h2p : 1 ≤ n2 := by have := hfew.out.2.1.1; have := he.out; omega
  have h3n : n3 ≤ 469 := by have := hfew.out.2.2; have := hb.out; omega
  go_wp2_with fail
  obtain ⟨bg, hbg⟩ : ∃ b, wq2.heap.size = b := ⟨_, rfl⟩
  obtain ⟨wq3, hwq3⟩ : ∃ W, World.alloc wq2 (.cells #[.slice a1 n1 d1, .slice a2 n2 d2, .slice a3 n3 d3] 28) = W := ⟨_, rfl⟩
  have hBbg : Blk wq3 bg 28 [.slice a1 n1 d1, .slice a2 n2 d2, .slice a3 n3 d3] := by rw [← hwq3, ← hbg]; exact Blk.new _ 28 [.slice a1 n1 d1, .slice a2 n2 d2, .slice a3 n3 d3]
  have hzbg : wq3.heap.size = bg + 1 := by rw [← hwq3, ← hbg]; exact heap_size_alloc _ _
  replace HS := Lib.hid (HS.out.step (w' := wq3) (by rw [← hwq3]; exact Mod.alloc _ _ _))
  replace HS := Lib.hid ((Ev.blk hBbg).and HS.out)
  try rw [hwq3]
  try rw [hbg]
  clear hzbg hBbg hbg hwq3
  have hbbg := (HS.out.now).1
  have qbg_0 := hbbg.cell 0 rfl
  have qbg_1 := hbbg.cell 1 rfl
  have qbg_2 := hbbg.cell 2 rfl
  have lbg := hbbg.lt
  clear hbbg
  have hmay0 := hmay.out
  clear hmay
  obtain ⟨hmay, hmy⟩ : ∃ h : May G, h = hmay0 := ⟨_, rfl⟩
  clear hmy hmay0
  have h1p : 1 ≤ n1 := by have := hfew.out.1.1; have := hn.out; omega
  have ke0 := Int.emod_nonneg ev (b := (n2 : Int)) (by omega)
  have ke1 := Int.emod_lt_of_pos ev (b := (n2 : Int)) (by omega)
  obtain ⟨k, hre⟩ := Int.eq_ofNat_of_zero_le ke0
  rw [hre] at ke1
  have hk2 : k < n2 := by omega
  have kv0 := Int.emod_nonneg nv (b := (n1 : Int)) (by omega)
  have kv1 := Int.emod_lt_of_pos nv (b := (n1 : Int)) (by omega)
  obtain ⟨vk, hrv⟩ := Int.eq_ofNat_of_zero_le kv0
  rw [hrv] at kv1
  have hv2 : vk < n1 := by omega
  have hn2a : (0 : Int) < (n2 : Int) := by omega
  have hn2b : (n2 : Int) ≤ 4611686018427387904 := by omega
  have hn1a : (0 : Int) < (n1 : Int) := by omega
  have hn1b : (n1 : Int) ≤ 4611686018427387904 := by omega
  have HQ2 := Lib.hid (fun j => Calls.quiet_of_same (round_q hre hn2a hn2b wq3 j))
  have HQ1 := Lib.hid (fun j => Calls.quiet_of_same (round_q hrv hn1a hn1b wq3 j))
  clear hre hrv hn2a hn2b hn1a hn1b ke0 ke1 kv0 kv1 h1p
  have hkE : k < G.E.length := by rw [he.out]; exact hk2
  have hvN : 0 ≤ (vk : Int) ∧ (vk : Int) < (G.N.length : Int) := ⟨by omega, by rw [hn.out]; omega⟩
  have HVN := Lib.hid hvN
  have HKE := Lib.hid hkE
  clear hvN hkE
  go_upto_region 6 with fail
  go_quiet ((go_at_call 10; first | with_reducible exact HQ2.out _ | with_reducible exact HQ1.out _))
  obtain ⟨wq, hwq⟩ : ∃ y, World.drewN wq3 nq = y := ⟨_, rfl⟩
  have hmq : Mod (fun _ => False) wq3 wq := by rw [← hwq]; exact Mod.drewN _ _ _
  (try rw [hwq])
  clear hwq
  clear qbg_0 qbg_1 qbg_2 lbg
  replace HS := Lib.hid (HS.out.step hmq)
  clear hmq HQ1 HQ2
  have hbbg := (HS.out.now).1
  have qbg_0 := hbbg.cell 0 rfl
  have qbg_1 := hbbg.cell 1 rfl
  have qbg_2 := hbbg.cell 2 rfl
  have lbg := hbbg.lt
  clear hbbg
  have hmk := run_makeS (P := Try.prog) 32 4 iB (.bool false) Try.underlying32 hiB hzB rfl hsB n2 (by rw [hbB]; omega) (by omega) wq
  have ho0 := own_zrow wq 4 (.bool false) n2 wq.heap.size rfl (by omega)
  obtain ⟨cb, hcb⟩ : ∃ b, wq.heap.size = b := ⟨_, rfl⟩
  obtain ⟨w1, hw1⟩ : ∃ W, wq.alloc (.cells (zrow (.bool false) n2) 4) = W := ⟨_, rfl⟩
  have hm1 : Mod (fun _ => False) wq w1 := by rw [← hw1]; exact Mod.alloc _ _ _
  rw [hw1, hcb] at hmk ho0
  have hz1 : w1.heap.size = cb + 1 := by rw [← hw1, ← hcb]; exact heap_size_alloc _ _
  have HCB := Lib.hid (And.intro hcb hz1)
  have HM1 := Lib.hid hm1
  have HS0 := HS
  have hbgw := (HS.out.now).1
  have qw0 := hbgw.cell 0 rfl
  have qw1 := hbgw.cell 1 rfl
  have qw2 := hbgw.cell 2 rfl
  have lw0 := hbgw.lt
  clear hbgw
  clear qbg_0 qbg_1 qbg_2 lbg
  replace HS := Lib.hid (HS.out.step hm1)
  clear hm1 hz1
  have hbbg := (HS.out.now).1
  have qbg_0 := hbbg.cell 0 rfl
  have qbg_1 := hbbg.cell 1 rfl
  have qbg_2 := hbbg.cell 2 rfl
  have lbg := hbbg.lt
  clear hbbg
  have HO0 := Lib.hid ho0
  clear ho0
  go_wp2_with fail
  refine (r4next_new G _ a1 n1 d1 a2 n2 d2 a3 n3 d3 ((HS.out.now).2.2.1) (by omega) (by omega) (k : Int)).mono ?_
  rintro e w' ⟨v', rfl, ⟨⟨an, cn, rfl, hx'⟩, hnew⟩, hmn⟩
  clear qbg_0 qbg_1 qbg_2 lbg
  obtain ⟨w2, hw2⟩ : ∃ x : World, x = w' := ⟨_, rfl⟩
  subst hw2
  clear hmk hw1 hcb qw0 qw1 qw2 lw0
  replace HS := HS0
  clear HS0
  have hnl := nxtR_len G (k : Int)
  obtain ⟨ns, hns⟩ : ∃ x, nxtR G (k : Int) = x := ⟨_, rfl⟩
  have hin : ∀ (i : Nat) (h : i < ns.length), ∃ q : Nat, ns[i] = (q : Int) ∧ q < G.E.length := by subst hns; intro i h; obtain ⟨q, h1, h2, _⟩ := nxtR_at G (k : Int) i h; exact ⟨q, h1, h2⟩
  rw [hns] at hnl hx' hnew ⊢
  obtain ⟨ln, hln⟩ : ∃ q, ns.length = q := ⟨_, rfl⟩
  rw [hln] at hnl hx' hnew ⊢
  have hl512 : ln ≤ 512 := by have := he.out; omega
  have HNS := Lib.hid (And.intro hns hln)
  have HIN := Lib.hid hin
  have HNEW := Lib.hid (fun q hq => hnew q hq)
  have HRN := Lib.hid hx'
  have HOW := Lib.hid (Own.keep HO0.out hmn (fun _ _ e => e))
  have HMN := Lib.hid (HM1.out.of2 hmn)
  clear hns hln hin hnew hx' hmn hnl HO0
  go_wp2_with fail
  replace HS := Lib.hid ((Ev.mod wq).and HS.out)
  go_loopw [13] (fun iv wr => ∃ (j : Nat) (cs : List Bool), j ≤ ln ∧ iv = .int .i64 j ∧ cs.length = n2 ∧ World.ownsRow wr 0 4 1 (.slice (some ⟨cb, 0, none⟩) n2 n2) n2 (cs.map Value.bool) ∧ (∀ x ∈ ns.take j, clB cs x = true) ∧ Rd wr 1 (.slice an ln cn) ln (ns.map (Value.int .i64)) ∧ Mod (fun _ => False) wq wr) (fun iv _ => ln - (intOf iv).toNat)
  case atStart => exact ⟨0, List.replicate n2 false, by omega, rfl, List.length_replicate, by rw [List.map_replicate]; exact HOW.out, by simp, HRN.out, HMN.out⟩
  case round =>
    obtain ⟨j, cs, hj, rfl, hcs, hrow, hall, hrn, hmr⟩ := hrel
    obtain ⟨wo, hwo⟩ : ∃ x : World, x = wr := ⟨_, rfl⟩
    subst hwo
    replace HS := Lib.hid (HS.out.step hmr)
    clear hmr
    have hbbg := (HS.out.now).2.1
    have qbg_0 := hbbg.cell 0 rfl
    have qbg_1 := hbbg.cell 1 rfl
    have qbg_2 := hbbg.cell 2 rfl
    have lbg := hbbg.lt
    clear hbbg
    have HCS := Lib.hid hcs
    have HROW := Lib.hid hrow
    have HALL := Lib.hid hall
    have HRNr := Lib.hid hrn
    clear hcs hrow hall hrn
    by_cases hlj : j < ln
    case pos =>
      have z0 : decide ((j : Int) < (ln : Int)) = true := by simp; omega
      have hjl : j < ns.length := by rw [HNS.out.2]; exact hlj
      obtain ⟨q, hq, hqE⟩ := HIN.out j hjl
      have hqn : q < n2 := by rw [← he.out]; exact hqE
      obtain ⟨eb, eo, hpl, e0⟩ := rd1 HRNr.out j hjl
      have hix := fun wx => run_indexS (P := Try.prog) wx 22 3 iI 1 Try.underlying22 hiI hsI an ln cn j hlj (HRNr.out.some_ (by omega))
      rw [hpl] at hix
      rw [hq] at e0
      have hxb : ∀ wx, (Instr.indexAt 32 (.slice (some ⟨cb, 0, none⟩) n2 n2) (.int .i64 (q : Int))).run Try.prog wx = .ok (.pointer (some ⟨cb, q, none⟩)) wx := fun wx => by
        have h := run_indexS (P := Try.prog) wx 32 4 iB 1 Try.underlying32 hiB hsB (some ⟨cb, 0, none⟩) n2 n2 q hqn (by simp)
        have hp := (show elemA (some ⟨cb, 0, none⟩) q 1 = ⟨cb, q, none⟩ by unfold elemA; rw [Option.getD_some, Addr.add_lit, Nat.zero_add, Nat.mul_one])
        rw [hp] at h; exact h
      have hroom := Room.ofOwn HROW.out q (by omega)
      obtain ⟨v0, qc⟩ := hroom.cell
      have qf := hroom.free
      have hso := (HROW.out.stored q (.bool true)).1
      rw [← List.map_set] at hso
      have HSO := Lib.hid hso
      have HQ := Lib.hid hq
      clear hso hroom hpl hq
      go_wp2_with fail
      have hset : Mod (fun k => k = cb) wo (wo.setCell ⟨cb, q, none⟩ (.bool true)) := Mod.setCell _ _ _ rfl
      go_roundw
      case rel => exact ⟨j + 1, cs.set q true, hlj, by go_num, by rw [List.length_set]; exact HCS.out, HSO.out, fun x hx => clB_set (by rw [HCS.out]; exact hqn) (by rw [List.take_succ_eq_append_getElem hjl, HQ.out] at hx; exact (List.mem_append.1 hx).imp (HALL.out x) (fun h => by simpa using h)), HRNr.out.keep hset (fun b hb e => by have h1 := HNEW.out b hb; have h2 := HCB.out.2; have h3 : b = cb := e; omega), ((HS.out.now).1).old hset (fun b hb => by have h1 := HCB.out.1; have h2 : b = cb := hb; omega)⟩
      case measure => simp [intOf]; omega
    case neg =>
      obtain rfl : ln = j := by omega
      have z0 : decide ((ln : Int) < (ln : Int)) = false := by simp
      have hal2 := HALL.out
      rw [List.take_of_length_le (by rw [HNS.out.2]; exact Nat.le_refl _), ← HNS.out.1] at hal2
      have HAL := Lib.hid hal2
      clear hal2
      replace HS := Lib.hid ((Ev.rd (Rd.ofOwn HROW.out)).and HS.out)
      go_wp2_with fail
      refine (ddist19_any t p B C G hmay _ ((HS.out.now).2.2.2.1) (k : Int) (vk : Int) (some ⟨cb, 0, none⟩) n2 n2 cs HCS.out ((HS.out.now).1)).mono ?_
      rintro e w' hp
      clear qbg_0 qbg_1 qbg_2 lbg
      obtain ⟨x, hbt, rfl, hmc⟩ := hp
      obtain ⟨wa, hw'⟩ : ∃ x : World, x = w' := ⟨_, rfl⟩
      subst hw'
      replace HS := Lib.hid (HS.out.step hmc)
      clear hmc z0
      have HBT := Lib.hid hbt
      clear hbt
      have hbbg := (HS.out.now).2.2.1
      have qbg_0 := hbbg.cell 0 rfl
      have qbg_1 := hbbg.cell 1 rfl
      have qbg_2 := hbbg.cell 2 rfl
      have lbg := hbbg.lt
      clear hbbg
      obtain ⟨xv, hxv⟩ : ∃ qz, (if x = -1 then 0 else x) = qz := ⟨_, rfl⟩
      obtain ⟨xb, hxb⟩ : ∃ qz, decide (x ≠ -1) = qz := ⟨_, rfl⟩
      rw [hxv, hxb]
      go_wp2_with fail
      refine (ddist19_any t p B C G hmay _ ((HS.out.now).2.2.2.1) (k : Int) (vk : Int) none 0 0 [] rfl (Rd.nil _ _)).mono ?_
      rintro e w' hp
      clear qbg_0 qbg_1 qbg_2 lbg
      obtain ⟨x2, hbt, rfl, hmc⟩ := hp
      obtain ⟨wb, hw'⟩ : ∃ x : World, x = w' := ⟨_, rfl⟩
      subst hw'
      replace HS := Lib.hid (HS.out.step hmc)
      clear hmc
      have HBT2 := Lib.hid hbt
      have hxl2 := hbt.low
      clear hbt
      have hbbg := (HS.out.now).2.2.1
      have qbg_0 := hbbg.cell 0 rfl
      have qbg_1 := hbbg.cell 1 rfl
      have qbg_2 := hbbg.cell 2 rfl
      have lbg := hbbg.lt
      clear hbbg
      obtain ⟨x2v, hx2v⟩ : ∃ qz, (if x2 = -1 then 0 else x2) = qz := ⟨_, rfl⟩
      obtain ⟨x2b, hx2b⟩ : ∃ qz, decide (x2 ≠ -1) = qz := ⟨_, rfl⟩
      rw [hx2v, hx2b]
      go_wp2_with fail
      refine (dmeets_any t p B C G hmay _ ((HS.out.now).2.2.2.1) (k : Int) (vk : Int) (some ⟨cb, 0, none⟩) n2 n2 cs HCS.out ((HS.out.now).1)).mono ?_
      rintro e w' hp
      clear qbg_0 qbg_1 qbg_2 lbg
      obtain ⟨y, hbt, rfl, hmc⟩ := hp
      obtain ⟨wd, hw'⟩ : ∃ x : World, x = w' := ⟨_, rfl⟩
      subst hw'
      replace HS := Lib.hid (HS.out.step hmc)
      clear hmc
      have HMT := Lib.hid hbt
      clear hbt
      have hbbg := (HS.out.now).2.2.1
      have qbg_0 := hbbg.cell 0 rfl
      have qbg_1 := hbbg.cell 1 rfl
      have qbg_2 := hbbg.cell 2 rfl
      have lbg := hbbg.lt
      clear hbbg
      obtain ⟨yv, hyv⟩ : ∃ qz, (if y = -1 then 0 else y) = qz := ⟨_, rfl⟩
      obtain ⟨yb, hyb⟩ : ∃ qz, decide (y ≠ -1) = qz := ⟨_, rfl⟩
      rw [hyv, hyb]
      go_wp2_with fail
      refine (r4btw_any G hmay _ a1 n1 d1 a2 n2 d2 a3 n3 d3 ((HS.out.now).2.2.2.2.1) (k : Int) (vk : Int) none 0 0 [] rfl (Rd.nil _ _)).mono ?_
      rintro e w' hp
      clear qbg_0 qbg_1 qbg_2 lbg
      obtain ⟨x3, hbt, rfl, hmc⟩ := hp
      obtain ⟨we, hw'⟩ : ∃ x : World, x = w' := ⟨_, rfl⟩
      subst hw'
      obtain rfl := HBT2.out.uniq hbt
      replace HS := Lib.hid (HS.out.step hmc)
      clear hmc hbt HBT2
      have hbbg := (HS.out.now).2.2.1
      have qbg_0 := hbbg.cell 0 rfl
      have qbg_1 := hbbg.cell 1 rfl
      have qbg_2 := hbbg.cell 2 rfl
      have lbg := hbbg.lt
      clear hbbg
      have hf := none_facts G hmay k HKE.out (vk : Int) HVN.out cs HAL.out HBT.out HMT.out
      rw [eAt_eq G k HKE.out] at hf
      clear HBT HMT
      have zx : decide (0 ≤ x2) = x2b := by rw [← hx2b]; exact decide_eq_decide.2 (by omega)
      have mx : (if x2 < 0 then 0 else x2) = x2v := by rw [← hx2v]; split <;> split <;> omega
      clear hx2v hx2b hxl2
      obtain ⟨xa, Hxa0⟩ : ∃ qz, (G.E[k]'HKE.out).1 = qz := ⟨_, rfl⟩
      have Hxa := Lib.hid Hxa0
      clear Hxa0
      obtain ⟨ya, Hya0⟩ : ∃ qz, (G.E[k]'HKE.out).2.1 = qz := ⟨_, rfl⟩
      have Hya := Lib.hid Hya0
      clear Hya0
      obtain ⟨za, Hza0⟩ : ∃ qz, (G.E[k]'HKE.out).2.2 = qz := ⟨_, rfl⟩
      have Hza := Lib.hid Hza0
      clear Hza0
      rw [Hya.out] at hf
      obtain ⟨eb, eo, hpl, e0, e1, e2⟩ := rd3 (HS.out.now).2.2.2.2.1.re k HKE.out
      have hix := fun wx => run_indexS (P := Try.prog) wx 25 43 iE 3 Try.underlying25 hiE hsE a2 n2 d2 k hk2 ((HS.out.now).2.2.2.2.1.re.some_ (by have := hk2; omega))
      rw [hpl] at hix
      have HIe := Lib.hid hix
      clear hix hpl
      rw [Hxa.out] at e0
      replace HS := Lib.hid ((Ev.cell e0).and HS.out)
      clear e0
      rw [Hya.out] at e1
      replace HS := Lib.hid ((Ev.cell e1).and HS.out)
      clear e1
      rw [Hza.out] at e2
      replace HS := Lib.hid ((Ev.cell e2).and HS.out)
      clear e2
      have qe1 := (HS.out.now).2.1
      have hix1 := HIe.out
      by_cases hh : ya = (vk : Int)
      case pos =>
        obtain ⟨h1, i, h2, h3⟩ := hf.1 hh
        have zh : (ya == (vk : Int)) = true := by rw [hh]; simp
        have hy1 : y ≠ -1 := by omega
        subst h1
        obtain rfl : xb = true := by rw [← hxb]; rfl
        obtain rfl : xv = 0 := by rw [← hxv]; rfl
        obtain rfl : yb = true := by rw [← hyb]; exact decide_eq_true hy1
        rw [if_neg hy1, h3] at hyv
        subst hyv
        have zi : decide ((i : Int) ≤ (k : Int)) = true := by simp; omega
        have zin : decide (i ≤ k) = true := by simp; omega
        clear hxb hxv hyb hf h3 hy1
        go_wp2_with fail
        refine (awake19_any _).mono ?_
        rintro e wq4 ⟨rfl, hmz⟩
        replace HS := Lib.hid (HS.out.step hmz)
        clear hmz
        clear qbg_0 qbg_1 qbg_2 lbg
        have hbbg := (HS.out.now).2.2.2.2.2.1
        have qbg_0 := hbbg.cell 0 rfl
        have qbg_1 := hbbg.cell 1 rfl
        have qbg_2 := hbbg.cell 2 rfl
        have lbg := hbbg.lt
        clear hbbg
        go_wp2_with fail
        go_ret
        exact ⟨rfl, (HS.out.now).2.2.2.2.2.2.2.2.2⟩
      case neg =>
        obtain ⟨h1, h2⟩ := hf.2 hh
        have zh : (ya == (vk : Int)) = false := beq_eq_false_iff_ne.2 hh
        subst h1 h2
        obtain rfl : xb = false := by rw [← hxb]; rfl
        obtain rfl : xv = 0 := by rw [← hxv]; rfl
        obtain rfl : yb = false := by rw [← hyb]; rfl
        obtain rfl : yv = 0 := by rw [← hyv]; rfl
        clear hxb hxv hyb hyv hf
        go_wp2_with fail
        refine (awake19_any _).mono ?_
        rintro e wq5 ⟨rfl, hmz⟩
        replace HS := Lib.hid (HS.out.step hmz)
        clear hmz
        clear qbg_0 qbg_1 qbg_2 lbg
        have hbbg := (HS.out.now).2.2.2.2.2.1
        have qbg_0 := hbbg.cell 0 rfl
        have qbg_1 := hbbg.cell 1 rfl
        have qbg_2 := hbbg.cell 2 rfl
        have lbg := hbbg.lt
        clear hbbg
        go_wp2_with fail
        go_ret
        exact ⟨rfl, (HS.out.now).2.2.2.2.2.2.2.2.2⟩
theorem dnone19_law (w : World) (a0 : Option Addr) (m c0 : Nat) (l : List Int) (ok : (encSlice (encInt .i64)).ok w (.slice a0 m c0, l)) (ev : Int) (_ : (Lit.int .i64 ev).wf = true) (nv : Int) (_ : (Lit.int .i64 nv).wf = true) :
    Calls Try.prog 5 #[.slice a0 m c0, .int .i64 ev, .int .i64 nv] w fun e w' => e = .returned (.bool true) ∧ Below w.heap.size w w' := by
  obtain ⟨hn, hr, _⟩ := ok_ints ok
  exact (dnone19_all w a0 m c0 l hn hr ev nv).mono fun e w' h => ⟨h.1, h.2.below (Nat.le_refl _) (fun _ e => e.elim)⟩
end Go.Proofs.Ytbjdjafkpldbnaa
