/- The reference's Levels: Rank, Up, Down, Cuts, by contract. -/
import Derived.Test.YtjjedebjbgpimaaGreatLvR2
import Derived.Test.YtjjedebjbgpimaaGreatLv6
namespace Go.Proofs.YtjjedebjbgpimaaGreat
open Go.RowKit Mile
set_option maxRecDepth 100000
attribute [local go_sem] Oper.semAt_some
set_option maxHeartbeats 4000000 in
theorem rl_rank {w : World} {p tq rd n : Nat} {T : List Ar} {V : List Nat} (h : RL w p tq rd n T V) (hn : n ≤ 512) (v : Int) : Calls Tryz.prog 20 #[.pointer (some ⟨p, 0, none⟩), .int .i64 v] w fun e w' => e = .returned (.int .i64 (rankV n V v)) ∧ w = w' := by
  obtain ⟨iI, hiI, hzI, hsI, hbI⟩ := info_parts Nt.infoI
  have b0 := h.blk.cell 0 rfl
  have b1 := h.blk.cell 1 rfl
  have n0 : w.cell? ⟨tq, 0, none⟩ = some (.int .i64 (n : Int)) := by obtain ⟨_, _, hb, _⟩ := h.net; exact hb.cell 0 rfl
  have HR := Lib.hid h.row
  obtain ⟨r, hr⟩ : ∃ y, decide (0 ≤ v ∧ v ≤ (n : Int) - 1) = y := ⟨_, rfl⟩
  have hwi := rnw_any v 0 ((n : Int) - 1) w
  rw [hr] at hwi
  have HWI := Lib.hid hwi
  clear h hwi
  cases r with
  | false =>
    have hno := of_decide_eq_false hr
    have hrv : rankV n V v = -1 := by unfold rankV; rw [if_neg (by omega)]
    rw [hrv]
    clear hr hno hrv
    go_enter Tryz.func20, Tryz.ntmps20
    go_wp2_with fail
    refine HWI.out.mono ?_
    rintro e w' ⟨rfl, rfl⟩
    go_wp2_with fail
    go_ret
    exact ⟨rfl, rfl⟩
  | true =>
    have hyes := of_decide_eq_true hr
    obtain ⟨v, rfl⟩ := Int.eq_ofNat_of_zero_le hyes.1
    have hlt : v < n := by omega
    have hix := fun wx => run_indexS (P := Tryz.prog) wx 40 3 iI 1 Tryz.underlying40 hiI hsI (some ⟨rd, 0, none⟩) n n v hlt (by simp)
    rw [elemA_lit1] at hix
    obtain ⟨r, hrv⟩ : ∃ y, rankV n V (v : Int) = y := ⟨_, rfl⟩
    have c0 := HR.out.at_ (i := v) (u := .int .i64 r) (by
      rw [List.getElem?_map, List.getElem?_eq_getElem (by rw [rkL_len]; exact hlt), ← rankV_at hlt, hrv]; rfl)
    rw [Nat.zero_add] at c0
    rw [hrv]
    clear hr hyes hrv
    go_enter Tryz.func20, Tryz.ntmps20
    go_wp2_with fail
    refine HWI.out.mono ?_
    rintro e w' ⟨rfl, rfl⟩
    go_wp2_with fail
    go_ret
    exact ⟨rfl, rfl⟩
theorem keptG_take {α : Type} (p : α → Bool) (xs : List α) (k : Nat) (h : k < xs.length) : keptG p (xs.take (k + 1)) = keptG p (xs.take k) ++ if p xs[k] then [] else [xs[k]] := keptG_snoc p xs k h
set_option maxHeartbeats 8000000 in
theorem rl_up {w : World} {p tq rd n : Nat} {T : List Ar} {V : List Nat} (h : RL w p tq rd n T V) (hok : NetOk n T) (hn : n ≤ 100) (v : Nat) (hv : v < n) : Calls Tryz.prog 22 #[.pointer (some ⟨p, 0, none⟩), .int .i64 (v : Int)] w (UpP n T V (v : Int) w) := by
  obtain ⟨iI, hiI, hzI, hsI, hbI⟩ := info_parts Nt.infoI
  obtain ⟨iA, hiA, hzA, hsA, hbA⟩ := info_parts Nt.infoA
  have b0 := h.blk.cell 0 rfl
  have hnn : n * n ≤ 100 * 100 := Nat.mul_le_mul hn hn
  have hl : T.length ≤ 10000 := by have := net_len hok; omega
  have HO := Lib.hid (rn_out h.net hok hl (v : Int))
  have hln := outL_len hok (v : Int)
  have hmem : ∀ a ∈ outL T (v : Int), a ∈ T := fun a ha => (mem_outL.1 ha).1
  have HRL := Lib.hid h
  have HOK := Lib.hid (And.intro hok hmem)
  obtain ⟨rv, hrv⟩ : ∃ y, rankV n V (v : Int) = y := ⟨_, rfl⟩
  have HRV := Lib.hid hrv
  obtain ⟨A, hA⟩ : ∃ y, outL T (v : Int) = y := ⟨_, rfl⟩
  unfold UpP upV
  unfold NewR at HO
  rw [hA] at HO HOK hln ⊢
  rw [hrv]
  obtain ⟨m, hm⟩ : ∃ y, A.length = y := ⟨_, rfl⟩
  rw [hm] at HO hln
  have HM := Lib.hid hm
  clear hm hA h hok hl hnn hmem hrv
  go_enter Tryz.func22, Tryz.ntmps22
  go_wp2_with fail
  refine HO.out.mono ?_
  rintro e w1 ⟨a, c, rfl, ho1, hm1⟩
  have H1 := Lib.hid (And.intro (Rd.ofOwn ho1) hm1)
  clear ho1 hm1 HO b0
  go_wp2_with fail
  go_loopw [5, 7] (fun s i wr => ∃ (k : Nat), k ≤ m ∧ i = .int .i64 k ∧ (∃ sa sc, s = .slice sa (keptG (fun x => decide (rankV n V x.t ≤ rv)) (A.take k)).length sc) ∧ wr.ownsRow w1.heap.size 50 4 s (keptG (fun x => decide (rankV n V x.t ≤ rv)) (A.take k)).length ((keptG (fun x => decide (rankV n V x.t ≤ rv)) (A.take k)).flatMap c4) ∧ Mod (fun _ => False) w1 wr) (fun _ i _ => m - (intOf i).toNat)
  case atStart => exact ⟨0, by omega, rfl, ⟨none, 0, rfl⟩, World.ownsRow_nil _ _ _ _, Mod.refl _ _⟩
  case round =>
    obtain ⟨k, hk, rfl, ⟨sa, sc, rfl⟩, hs, hmw⟩ := hrel
    obtain ⟨wo, hwo⟩ : ∃ x : World, x = wr := ⟨_, rfl⟩
    subst hwo
    by_cases hlt : k < m
    case neg =>
      have z0 : decide ((k : Int) < (m : Int)) = false := by simp; omega
      have ht : A.take k = A := List.take_of_length_le (by have := HM.out; omega)
      rw [ht] at hs ⊢
      have HS := Lib.hid (And.intro (Rd.ofOwn hs) (H1.out.2.of2 hmw))
      clear hs hmw ht
      go_wp2_with fail
      go_ret
      exact ⟨sa, sc, rfl, HS.out.1, HS.out.2⟩
    case pos =>
      have z0 : decide ((k : Int) < (m : Int)) = true := by simp; omega
      have hkl : k < A.length := by rw [HM.out]; exact hlt
      have hrd := H1.out.1.keep hmw (fun _ _ e => e)
      obtain ⟨eb, eo, hpe, e0, e1, e2, e3⟩ := rd4 hrd k hkl
      have hix := fun wx => run_indexS (P := Tryz.prog) wx 34 50 iA 4 Tryz.underlying34 hiA hsA a m c k hlt (hrd.some_ (by omega))
      rw [hpe] at hix
      have hstep := keptG_take (fun x => decide (rankV n V x.t ≤ rv)) A k hkl
      have hmay := HOK.out.1.may A[k] (HOK.out.2 _ (List.getElem_mem hkl))
      obtain ⟨y, hy⟩ : ∃ y, A[k] = y := ⟨_, rfl⟩
      rw [hy] at e0 e1 e2 e3 hstep hmay
      obtain ⟨yf, yt, yw, ym⟩ := y
      simp only at e0 e1 e2 e3 hstep
      unfold mayA at hmay
      simp only at hmay
      obtain ⟨u, hu⟩ : ∃ u : Nat, yt = (u : Int) := ⟨yt.toNat, by omega⟩
      have hun : u < n := by omega
      subst hu
      have hrl := (HRL.out.later (H1.out.2.of2 hmw))
      have b1 := hrl.blk.cell 1 rfl
      have hix1 := fun wx => run_indexS (P := Tryz.prog) wx 40 3 iI 1 Tryz.underlying40 hiI hsI (some ⟨rd, 0, none⟩) n n u hun (by simp)
      have hix2 := fun wx => run_indexS (P := Tryz.prog) wx 40 3 iI 1 Tryz.underlying40 hiI hsI (some ⟨rd, 0, none⟩) n n v hv (by simp)
      rw [elemA_lit1] at hix1 hix2
      obtain ⟨ru, hru⟩ : ∃ y, rankV n V (u : Int) = y := ⟨_, rfl⟩
      rw [hru] at hstep
      have c0 := hrl.row.at_ (i := u) (u := .int .i64 ru) (by
        rw [List.getElem?_map, List.getElem?_eq_getElem (by rw [rkL_len]; exact hun), ← rankV_at hun, hru]; rfl)
      have c1 := hrl.row.at_ (i := v) (u := .int .i64 rv) (by
        rw [List.getElem?_map, List.getElem?_eq_getElem (by rw [rkL_len]; exact hv), ← rankV_at hv, HRV.out]; rfl)
      rw [Nat.zero_add] at c0 c1
      have hcnt : (keptG (fun x => decide (rankV n V x.t ≤ rv)) (A.take k)).length ≤ 100 := by
        have h1 : (keptG (fun x => decide (rankV n V x.t ≤ rv)) (A.take k)).length ≤ (A.take k).length := List.length_filter_le _ _
        rw [List.length_take] at h1
        omega
      obtain ⟨ns, hns⟩ : ∃ y, (keptG (fun x => decide (rankV n V x.t ≤ rv)) (A.take k)).length = y := ⟨_, rfl⟩
      have HS := Lib.hid (And.intro hs (And.intro hmw (And.intro hstep hns)))
      rw [hns] at hcnt ⊢
      clear hs hmw hstep hpe hy hrd hrl hmay hru hns
      go_upto_region 6 with fail
      go_quiet (fail)
      by_cases hgt : rv < ru
      · have z1 : decide (rv < ru) = true := decide_eq_true hgt
        have hs0 := HS.out.1
        rw [HS.out.2.2.2] at hs0
        obtain ⟨wd, hwd⟩ : ∃ y, wo.drewN nq = y := ⟨_, rfl⟩
        have hmd : Mod (fun _ => False) wo wd := by rw [← hwd]; exact Mod.drewN (fun _ => False) wo nq
        rw [hwd]
        obtain ⟨wc2, hwc⟩ : ∃ y, wd.alloc (.cells #[.int .i64 yf, .int .i64 (u : Int), .int .i64 yw, .int .i64 ym] 50) = y := ⟨_, rfl⟩
        have hmc : Mod (fun _ => False) wd wc2 := by rw [← hwc]; exact Mod.alloc _ _ _
        have hlit : Rd wc2 4 (.slice (some ⟨wd.heap.size, 0, none⟩) 1 1) 1 [.int .i64 yf, .int .i64 (u : Int), .int .i64 yw, .int .i64 ym] := by rw [← hwc]; exact Rd.litN 50 4 [.int .i64 yf, .int .i64 (u : Int), .int .i64 yw, .int .i64 ym] _ _ 1 rfl rfl (by omega)
        have hlow : ∀ j, (Value.slice sa ns sc).ownBlock = some j → w1.heap.size ≤ j := fun j hj => (hs0.lt j hj).1
        have HOW := Lib.hid (Own.base (Own.keep hs0 (hmd.of2 hmc) (fun _ _ e => e)) (Nat.zero_le _))
        have HLIT := Lib.hid hlit
        have HMC := Lib.hid (And.intro (HS.out.2.1.of2 (hmd.of2 hmc)) hlow)
        replace e0 := hmd.cell e0 (fun e => e)
        replace e1 := hmd.cell e1 (fun e => e)
        replace e2 := hmd.cell e2 (fun e => e)
        replace e3 := hmd.cell e3 (fun e => e)
        clear hs0 b1 c0 c1 hmd hmc hlit hlow hwd
        go_wp2_with (at_builtin; refine wpList_append_any rfl (.tmp 39) (.tmp 44) 34 rfl 50 iA (.agg #[.int .i64 0, .int .i64 0, .int .i64 0, .int .i64 0]) 4 32 Tryz.underlying34 hiA hzA hsA hbA rfl (by decide) (.slice sa ns sc) ns _ rfl HOW.out _ 1 _ rfl HLIT.out (fun u hu => by simp at hu; rcases hu with rfl | rfl | rfl | rfl <;> rfl) (by unfold maxLen; omega) (by omega) ?_; intro v9 w9 hap9; have HAP9 := Lib.hid hap9; clear hap9)
        go_roundw
        case rel =>
          have hst := HS.out.2.2.1
          rw [if_neg (by simp; omega)] at hst
          have hap := HAP9.out
          obtain ⟨a9, c9, hv9⟩ := hap.form
          have hlen : (keptG (fun x => decide (rankV n V x.t ≤ rv)) (A.take (k + 1))).length = ns + 1 := by rw [hst, List.length_append, HS.out.2.2.2]; rfl
          have hfl : (keptG (fun x => decide (rankV n V x.t ≤ rv)) (A.take (k + 1))).flatMap c4 = (keptG (fun x => decide (rankV n V x.t ≤ rv)) (A.take k)).flatMap c4 ++ [.int .i64 yf, .int .i64 (u : Int), .int .i64 yw, .int .i64 ym] := by rw [hst, List.flatMap_append]; rfl
          refine ⟨k + 1, hlt, by go_num, ⟨a9, c9, by rw [hv9, hlen]⟩, ?_, HMC.out.1.trans hap.mod (H := fun _ => False) (fun _ _ e => e) (fun j hj e => by have := HMC.out.2 j e; omega)⟩
          rw [hlen, hfl]
          refine own_base hap.own (fun j hj => ?_)
          rcases hap.row j hj with e | e
          · exact HMC.out.2 j e
          · have := HMC.out.1.size; omega
        case measure => simp [intOf]; omega
      · have z1 : decide (rv < ru) = false := decide_eq_false hgt
        go_wp2_with fail
        go_roundw
        case rel =>
          have hst := HS.out.2.2.1
          rw [if_pos (decide_eq_true (by omega)), List.append_nil] at hst
          refine ⟨k + 1, hlt, by go_num, ⟨sa, sc, by rw [hst, HS.out.2.2.2]⟩, ?_, HS.out.2.1.of2 (Mod.drewN _ _ _)⟩
          rw [hst]
          have h9 := Own.keep HS.out.1 (Mod.drewN (fun _ => False) wo nq) (fun _ _ e => e)
          rw [← HS.out.2.2.2]
          exact h9
        case measure => simp [intOf]; omega
set_option maxHeartbeats 8000000 in
theorem rl_down {w : World} {p tq rd n : Nat} {T : List Ar} {V : List Nat} (h : RL w p tq rd n T V) (hok : NetOk n T) (hn : n ≤ 100) (v : Nat) (hv : v < n) : Calls Tryz.prog 24 #[.pointer (some ⟨p, 0, none⟩), .int .i64 (v : Int)] w (DownP n T V (v : Int) w) := by
  obtain ⟨iI, hiI, hzI, hsI, hbI⟩ := info_parts Nt.infoI
  obtain ⟨iA, hiA, hzA, hsA, hbA⟩ := info_parts Nt.infoA
  have b0 := h.blk.cell 0 rfl
  have hnn : n * n ≤ 100 * 100 := Nat.mul_le_mul hn hn
  have hl : T.length ≤ 10000 := by have := net_len hok; omega
  have HO := Lib.hid (rn_in h.net hl (v : Int))
  have hln := inL_len hok (v : Int)
  have hmem : ∀ a ∈ inL T (v : Int), a ∈ T := fun a ha => (mem_inL.1 ha).1
  have HRL := Lib.hid h
  have HOK := Lib.hid (And.intro hok hmem)
  obtain ⟨rv, hrv⟩ : ∃ y, rankV n V (v : Int) = y := ⟨_, rfl⟩
  have HRV := Lib.hid hrv
  obtain ⟨A, hA⟩ : ∃ y, inL T (v : Int) = y := ⟨_, rfl⟩
  unfold DownP downV
  unfold NewR at HO
  rw [hA] at HO HOK hln ⊢
  rw [hrv]
  obtain ⟨m, hm⟩ : ∃ y, A.length = y := ⟨_, rfl⟩
  rw [hm] at HO hln
  have HM := Lib.hid hm
  clear hm hA h hok hl hnn hmem hrv
  go_enter Tryz.func24, Tryz.ntmps24
  go_wp2_with fail
  refine HO.out.mono ?_
  rintro e w1 ⟨a, c, rfl, ho1, hm1⟩
  have H1 := Lib.hid (And.intro (Rd.ofOwn ho1) hm1)
  clear ho1 hm1 HO b0
  go_wp2_with fail
  go_loopw [5, 7] (fun s i wr => ∃ (k : Nat), k ≤ m ∧ i = .int .i64 k ∧ (∃ sa sc, s = .slice sa (keptG (fun x => decide (rankV n V x.f ≤ rv)) (A.take k)).length sc) ∧ wr.ownsRow w1.heap.size 50 4 s (keptG (fun x => decide (rankV n V x.f ≤ rv)) (A.take k)).length ((keptG (fun x => decide (rankV n V x.f ≤ rv)) (A.take k)).flatMap c4) ∧ Mod (fun _ => False) w1 wr) (fun _ i _ => m - (intOf i).toNat)
  case atStart => exact ⟨0, by omega, rfl, ⟨none, 0, rfl⟩, World.ownsRow_nil _ _ _ _, Mod.refl _ _⟩
  case round =>
    obtain ⟨k, hk, rfl, ⟨sa, sc, rfl⟩, hs, hmw⟩ := hrel
    obtain ⟨wo, hwo⟩ : ∃ x : World, x = wr := ⟨_, rfl⟩
    subst hwo
    by_cases hlt : k < m
    case neg =>
      have z0 : decide ((k : Int) < (m : Int)) = false := by simp; omega
      have ht : A.take k = A := List.take_of_length_le (by have := HM.out; omega)
      rw [ht] at hs ⊢
      have HS := Lib.hid (And.intro (Rd.ofOwn hs) (H1.out.2.of2 hmw))
      clear hs hmw ht
      go_wp2_with fail
      go_ret
      exact ⟨sa, sc, rfl, HS.out.1, HS.out.2⟩
    case pos =>
      have z0 : decide ((k : Int) < (m : Int)) = true := by simp; omega
      have hkl : k < A.length := by rw [HM.out]; exact hlt
      have hrd := H1.out.1.keep hmw (fun _ _ e => e)
      obtain ⟨eb, eo, hpe, e0, e1, e2, e3⟩ := rd4 hrd k hkl
      have hix := fun wx => run_indexS (P := Tryz.prog) wx 34 50 iA 4 Tryz.underlying34 hiA hsA a m c k hlt (hrd.some_ (by omega))
      rw [hpe] at hix
      have hstep := keptG_take (fun x => decide (rankV n V x.f ≤ rv)) A k hkl
      have hmay := HOK.out.1.may A[k] (HOK.out.2 _ (List.getElem_mem hkl))
      obtain ⟨y, hy⟩ : ∃ y, A[k] = y := ⟨_, rfl⟩
      rw [hy] at e0 e1 e2 e3 hstep hmay
      obtain ⟨yf, yt, yw, ym⟩ := y
      simp only at e0 e1 e2 e3 hstep
      unfold mayA at hmay
      simp only at hmay
      obtain ⟨u, hu⟩ : ∃ u : Nat, yf = (u : Int) := ⟨yf.toNat, by omega⟩
      have hun : u < n := by omega
      subst hu
      have hrl := (HRL.out.later (H1.out.2.of2 hmw))
      have b1 := hrl.blk.cell 1 rfl
      have hix1 := fun wx => run_indexS (P := Tryz.prog) wx 40 3 iI 1 Tryz.underlying40 hiI hsI (some ⟨rd, 0, none⟩) n n u hun (by simp)
      have hix2 := fun wx => run_indexS (P := Tryz.prog) wx 40 3 iI 1 Tryz.underlying40 hiI hsI (some ⟨rd, 0, none⟩) n n v hv (by simp)
      rw [elemA_lit1] at hix1 hix2
      obtain ⟨ru, hru⟩ : ∃ y, rankV n V (u : Int) = y := ⟨_, rfl⟩
      rw [hru] at hstep
      have c0 := hrl.row.at_ (i := u) (u := .int .i64 ru) (by
        rw [List.getElem?_map, List.getElem?_eq_getElem (by rw [rkL_len]; exact hun), ← rankV_at hun, hru]; rfl)
      have c1 := hrl.row.at_ (i := v) (u := .int .i64 rv) (by
        rw [List.getElem?_map, List.getElem?_eq_getElem (by rw [rkL_len]; exact hv), ← rankV_at hv, HRV.out]; rfl)
      rw [Nat.zero_add] at c0 c1
      have hcnt : (keptG (fun x => decide (rankV n V x.f ≤ rv)) (A.take k)).length ≤ 100 := by
        have h1 : (keptG (fun x => decide (rankV n V x.f ≤ rv)) (A.take k)).length ≤ (A.take k).length := List.length_filter_le _ _
        rw [List.length_take] at h1
        omega
      obtain ⟨ns, hns⟩ : ∃ y, (keptG (fun x => decide (rankV n V x.f ≤ rv)) (A.take k)).length = y := ⟨_, rfl⟩
      have HS := Lib.hid (And.intro hs (And.intro hmw (And.intro hstep hns)))
      rw [hns] at hcnt ⊢
      clear hs hmw hstep hpe hy hrd hrl hmay hru hns
      go_upto_region 6 with fail
      go_quiet (fail)
      by_cases hgt : rv < ru
      · have z1 : decide (rv < ru) = true := decide_eq_true hgt
        have hs0 := HS.out.1
        rw [HS.out.2.2.2] at hs0
        obtain ⟨wd, hwd⟩ : ∃ y, wo.drewN nq = y := ⟨_, rfl⟩
        have hmd : Mod (fun _ => False) wo wd := by rw [← hwd]; exact Mod.drewN (fun _ => False) wo nq
        rw [hwd]
        obtain ⟨wc2, hwc⟩ : ∃ y, wd.alloc (.cells #[.int .i64 (u : Int), .int .i64 yt, .int .i64 yw, .int .i64 ym] 50) = y := ⟨_, rfl⟩
        have hmc : Mod (fun _ => False) wd wc2 := by rw [← hwc]; exact Mod.alloc _ _ _
        have hlit : Rd wc2 4 (.slice (some ⟨wd.heap.size, 0, none⟩) 1 1) 1 [.int .i64 (u : Int), .int .i64 yt, .int .i64 yw, .int .i64 ym] := by rw [← hwc]; exact Rd.litN 50 4 [.int .i64 (u : Int), .int .i64 yt, .int .i64 yw, .int .i64 ym] _ _ 1 rfl rfl (by omega)
        have hlow : ∀ j, (Value.slice sa ns sc).ownBlock = some j → w1.heap.size ≤ j := fun j hj => (hs0.lt j hj).1
        have HOW := Lib.hid (Own.base (Own.keep hs0 (hmd.of2 hmc) (fun _ _ e => e)) (Nat.zero_le _))
        have HLIT := Lib.hid hlit
        have HMC := Lib.hid (And.intro (HS.out.2.1.of2 (hmd.of2 hmc)) hlow)
        replace e0 := hmd.cell e0 (fun e => e)
        replace e1 := hmd.cell e1 (fun e => e)
        replace e2 := hmd.cell e2 (fun e => e)
        replace e3 := hmd.cell e3 (fun e => e)
        clear hs0 b1 c0 c1 hmd hmc hlit hlow hwd
        go_wp2_with (at_builtin; refine wpList_append_any rfl (.tmp 39) (.tmp 44) 34 rfl 50 iA (.agg #[.int .i64 0, .int .i64 0, .int .i64 0, .int .i64 0]) 4 32 Tryz.underlying34 hiA hzA hsA hbA rfl (by decide) (.slice sa ns sc) ns _ rfl HOW.out _ 1 _ rfl HLIT.out (fun u hu => by simp at hu; rcases hu with rfl | rfl | rfl | rfl <;> rfl) (by unfold maxLen; omega) (by omega) ?_; intro v9 w9 hap9; have HAP9 := Lib.hid hap9; clear hap9)
        go_roundw
        case rel =>
          have hst := HS.out.2.2.1
          rw [if_neg (by simp; omega)] at hst
          have hap := HAP9.out
          obtain ⟨a9, c9, hv9⟩ := hap.form
          have hlen : (keptG (fun x => decide (rankV n V x.f ≤ rv)) (A.take (k + 1))).length = ns + 1 := by rw [hst, List.length_append, HS.out.2.2.2]; rfl
          have hfl : (keptG (fun x => decide (rankV n V x.f ≤ rv)) (A.take (k + 1))).flatMap c4 = (keptG (fun x => decide (rankV n V x.f ≤ rv)) (A.take k)).flatMap c4 ++ [.int .i64 (u : Int), .int .i64 yt, .int .i64 yw, .int .i64 ym] := by rw [hst, List.flatMap_append]; rfl
          refine ⟨k + 1, hlt, by go_num, ⟨a9, c9, by rw [hv9, hlen]⟩, ?_, HMC.out.1.trans hap.mod (H := fun _ => False) (fun _ _ e => e) (fun j hj e => by have := HMC.out.2 j e; omega)⟩
          rw [hlen, hfl]
          refine own_base hap.own (fun j hj => ?_)
          rcases hap.row j hj with e | e
          · exact HMC.out.2 j e
          · have := HMC.out.1.size; omega
        case measure => simp [intOf]; omega
      · have z1 : decide (rv < ru) = false := decide_eq_false hgt
        go_wp2_with fail
        go_roundw
        case rel =>
          have hst := HS.out.2.2.1
          rw [if_pos (decide_eq_true (by omega)), List.append_nil] at hst
          refine ⟨k + 1, hlt, by go_num, ⟨sa, sc, by rw [hst, HS.out.2.2.2]⟩, ?_, HS.out.2.1.of2 (Mod.drewN _ _ _)⟩
          rw [hst]
          have h9 := Own.keep HS.out.1 (Mod.drewN (fun _ => False) wo nq) (fun _ _ e => e)
          rw [← HS.out.2.2.2]
          exact h9
        case measure => simp [intOf]; omega
set_option maxHeartbeats 4000000 in
theorem rl_cuts {w : World} {p tq rd n : Nat} {T : List Ar} {V : List Nat} (h : RL w p tq rd n T V) (hl : T.length ≤ 10000) : Calls Tryz.prog 26 #[.pointer (some ⟨p, 0, none⟩)] w fun e w' => e = .returned (.int .i64 ((cutsL T : Nat) : Int)) ∧ Mod (fun _ => False) w w' := by
  obtain ⟨iA, hiA, hzA, hsA, hbA⟩ := info_parts Nt.infoA
  have b0 := h.blk.cell 0 rfl
  obtain ⟨a, c, hbk, hrd, _⟩ := h.net
  have n1 := hbk.cell 1 rfl
  obtain ⟨m, hm⟩ : ∃ y, T.length = y := ⟨_, rfl⟩
  rw [hm] at hrd n1 hl
  have HM := Lib.hid hm
  have HR := Lib.hid hrd
  clear h hbk hrd hm
  go_enter Tryz.func26, Tryz.ntmps26
  go_wp2_with fail
  go_loopw [3, 4] (fun s i wr => ∃ k : Nat, k ≤ m ∧ i = .int .i64 k ∧ s = .int .i64 ((cutsL (T.take k) : Nat) : Int) ∧ w = wr) (fun _ i _ => m - (intOf i).toNat)
  case atStart => exact ⟨0, by omega, rfl, rfl, rfl⟩
  case round =>
    obtain ⟨k, hk, rfl, rfl, rfl⟩ := hrel
    have hle := cutsL_le (T.take k)
    rw [List.length_take] at hle
    by_cases hlt : k < m
    · have z0 : decide ((k : Int) < (m : Int)) = true := by simp; omega
      have hkl : k < T.length := by rw [HM.out]; exact hlt
      obtain ⟨eb, eo, hpl, e0, e1, e2, e3⟩ := rd4 HR.out k hkl
      have hix := fun wx => run_indexS (P := Tryz.prog) wx 34 50 iA 4 Tryz.underlying34 hiA hsA a m c k hlt (HR.out.some_ (by omega))
      rw [hpl] at hix
      have hst := cutsL_step T k hkl
      obtain ⟨x, hx⟩ : ∃ x, T[k] = x := ⟨_, rfl⟩
      rw [hx] at e0 e1 e2 e3 hst
      obtain ⟨x1, x2, x3, x4⟩ := x
      simp only at e0 e1 e2 e3 hst
      have HS := Lib.hid hst
      obtain ⟨cc, hcc⟩ : ∃ y, cutsL (T.take k) = y := ⟨_, rfl⟩
      rw [hcc] at hle ⊢
      have HCC := Lib.hid hcc
      clear hx hpl hst hcc
      by_cases h4 : 0 ≤ x4
      · have z1 : decide (0 ≤ x4) = true := decide_eq_true h4
        go_wp2_with fail
        go_roundw
        case rel =>
          refine ⟨k + 1, hlt, by go_num, ?_, (by first | trivial | rfl)⟩
          rw [HS.out, if_pos h4, HCC.out]
          go_num
        case measure => simp [intOf]; omega
      · have z1 : decide (0 ≤ x4) = false := decide_eq_false h4
        go_wp2_with fail
        go_roundw
        case rel =>
          refine ⟨k + 1, hlt, by go_num, ?_, (by first | trivial | rfl)⟩
          rw [HS.out, if_neg h4, HCC.out]; rfl
        case measure => simp [intOf]; omega
    · have z0 : decide ((k : Int) < (m : Int)) = false := by simp; omega
      have ht : T.take k = T := List.take_of_length_le (by have := HM.out; omega)
      rw [ht]
      clear ht
      go_wp2_with fail
      go_ret
      exact ⟨rfl, Mod.refl _ _⟩
theorem Ev.lo {w : World} {p n : Nat} {T : List Ar} {V : List Nat} {F : Nat → Prop} (h : LO w p n T V F) : Ev (fun w' => LO w' p n T V F) w := fun _ m => h.later m
theorem Ev.rl {w : World} {p tq rd n : Nat} {T : List Ar} {V : List Nat} (h : RL w p tq rd n T V) : Ev (fun w' => RL w' p tq rd n T V) w := fun _ m => h.later m
/-- A pointer, to whatever. -/
def PtrP : Value → World → Prop := fun v _ => ∃ p, v = .pointer (some ⟨p, 0, none⟩)
theorem PtrP.st : ∀ v w w', PtrP v w → Mod (fun _ => False) w w' → PtrP v w' := fun _ _ _ h _ => h
/-- A row of arcs in memory that stays. -/
def ArP16 (L : List Ar) : Value → World → Prop := fun v W => ∃ a c, v = .slice a L.length c ∧ Rd W 4 (.slice a L.length c) L.length (L.flatMap c4)
theorem ArP16.st (L : List Ar) : ∀ v w w', ArP16 L v w → Mod (fun _ => False) w w' → ArP16 L v w' := fun _ _ _ ⟨a, c, h, r⟩ m => ⟨a, c, h, r.keep m (fun _ _ e => e)⟩
theorem upV_len {n : Nat} {T : List Ar} {V : List Nat} (hok : NetOk n T) (v : Int) : (upV n T V v).length ≤ n := Nat.le_trans (List.length_filter_le _ _) (outL_len hok v)
theorem downV_len {n : Nat} {T : List Ar} {V : List Nat} (hok : NetOk n T) (v : Int) : (downV n T V v).length ≤ n := Nat.le_trans (List.length_filter_le _ _) (inL_len hok v)
end Go.Proofs.YtjjedebjbgpimaaGreat
