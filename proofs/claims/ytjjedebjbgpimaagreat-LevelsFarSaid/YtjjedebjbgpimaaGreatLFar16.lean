/- LevelsFar by contract. -/
import Derived.Test.YtjjedebjbgpimaaGreatLaw16
import Derived.Test.YtjjedebjbgpimaaGreatRAll16
import Derived.Test.YtjjedebjbgpimaaGreatLvP6
import Derived.Test.YtjjedebjbgpimaaGreatInts
import Derived.BigQuiet
import Derived.StillTailTactics
namespace Go.Proofs.YtjjedebjbgpimaaGreat
open Go.RowKit Mile
set_option maxRecDepth 100000
theorem ownB_at {w : World} {B rb m c : Nat} {d : List Bool} (h : w.ownsRow B 4 1 (.slice (some ⟨rb, 0, none⟩) m c) m (d.map Value.bool)) (i : Nat) (x : Bool) (hx : d[i]? = some x) : w.cell? ⟨rb, i, none⟩ = some (.bool x) := by
  have := (Rd.ofOwn h).at_ (i := i) (u := .bool x) (by rw [List.getElem?_map, hx]; rfl)
  simpa using this
theorem ownB_ix (iB : TypeInfo) (hiB : Tryz.prog.info? 4 = some iB) (hsB : iB.size = 1) (rb m i : Nat) (hi : i < m) (wx : World) : (Instr.indexAt 48 (.slice (some ⟨rb, 0, none⟩) m m) (.int .i64 (i : Int))).run Tryz.prog wx = .ok (.pointer (some ⟨rb, i, none⟩)) wx := by
  have h := run_indexS (P := Tryz.prog) wx 48 4 iB 1 Tryz.underlying48 hiB hsB (some ⟨rb, 0, none⟩) m m i hi (by simp)
  have hp := (show elemA (some ⟨rb, 0, none⟩) i 1 = ⟨rb, i, none⟩ by unfold elemA; rw [Option.getD_some, Addr.add_lit, Nat.zero_add, Nat.mul_one])
  rw [hp] at h; exact h
section
variable (P : List Ar → Nat → Int → List Int) (L : List Ar) (n : Nat)
def seenL (k : Nat) : List Bool := (List.range n).map fun r => decide (bV n P L r < k)
def atL (k : Nat) : List Int := (List.range n).map fun r => if bV n P L r < k then ((bV n P L r : Nat) : Int) else 0
variable {P L n}
theorem seenL_zero : seenL P L n 0 = List.replicate n false := by
  apply List.ext_getElem (by simp [seenL])
  intro i h1 h2
  simp [seenL]
theorem atL_zero : atL P L n 0 = List.replicate n 0 := by
  apply List.ext_getElem (by simp [atL])
  intro i h1 h2
  simp [atL]
theorem bV_ne (hok : NetOk n L) {k : Nat} (hk : k < n) {i : Nat} (hi : i < n) (hne : (bAt n P L n).V.idxOf k ≠ i) : bV n P L i ≠ k := fun h => hne (by have := rank_bV P hok hi; rw [h] at this; exact this)
theorem rank_step (hok : NetOk n L) {V : List Nat} (hV : (bAt n P L n).V = V) (k : Nat) (hk : k < n) : ∃ r, r < n ∧ rankV n V (k : Int) = (r : Int) ∧ (seenL P L n k)[r]? = some false ∧ (seenL P L n k).set r true = seenL P L n (k + 1) ∧ (atL P L n k).set r (k : Int) = atL P L n (k + 1) := by
  obtain ⟨h1, h2⟩ := bV_rank P hok hk
  refine ⟨_, h1, by rw [rankV_in hk (by rw [← hV]; exact bAt_all P hok hk), hV], ?_, ?_, ?_⟩
  · unfold seenL
    rw [List.getElem?_map, List.getElem?_range h1, Option.map_some, h2]; simp
  · apply List.ext_getElem (by simp [seenL])
    intro i h3 h4
    have hi : i < n := by simpa [seenL] using h4
    rw [List.getElem_set]
    by_cases hri : (bAt n P L n).V.idxOf k = i
    · rw [if_pos hri]
      simp only [seenL, List.getElem_map, List.getElem_range]
      rw [← hri, h2]; simp
    · rw [if_neg hri]
      simp only [seenL, List.getElem_map, List.getElem_range]
      have := bV_ne hok hk hi hri
      exact decide_of (by omega)
  · apply List.ext_getElem (by simp [atL])
    intro i h3 h4
    have hi : i < n := by simpa [atL] using h4
    rw [List.getElem_set]
    by_cases hri : (bAt n P L n).V.idxOf k = i
    · rw [if_pos hri]
      simp only [atL, List.getElem_map, List.getElem_range]
      rw [← hri, h2, if_pos (by omega)]
    · rw [if_neg hri]
      simp only [atL, List.getElem_map, List.getElem_range]
      have := bV_ne hok hk hi hri
      by_cases hlt : bV n P L i < k
      · rw [if_pos hlt, if_pos (by omega)]
      · rw [if_neg hlt, if_neg (by omega)]
theorem at_step (hok : NetOk n L) {T : List Ar} {V : List Nat} (hT : (bAt n P L n).T = T) (hV : (bAt n P L n).V = V) (r : Nat) (hr : r < n) : ∃ v, v < n ∧ bV n P L r = v ∧ (atL P L n n)[r]? = some (v : Int) ∧ upV n T V (v : Int) = upA P L n r ∧ downV n T V (v : Int) = dnA P L n r := by
  have h1 := bV_lt P hok hr
  refine ⟨_, h1.1, rfl, ?_, by rw [← hT, ← hV]; exact up_eq P hok hr, by rw [← hT, ← hV]; exact dn_eq P hok hr⟩
  unfold atL
  rw [List.getElem?_map, List.getElem?_range hr, Option.map_some, if_pos h1.1]
theorem half_ranks (hok : NetOk n L) (hin : ∀ a ∈ L, a.m = -1) {T : List Ar} {V : List Nat} (hT : (bAt n P L n).T = T) (hV : (bAt n P L n).V = V) (a : Ar) (ha : a ∈ T) (h0 : 0 ≤ a.m) : ∃ rm rf rt : Int, rankV n V a.m = rm ∧ rankV n V a.f = rf ∧ rankV n V a.t = rt ∧ rm ≤ rf ∧ rm ≤ rt := by
  refine ⟨_, _, _, rfl, rfl, rfl, ?_⟩
  have hbo := bAt_ok P hok n (Nat.le_refl n)
  rw [← hT] at ha
  have hm := hbo.tok.may a ha
  unfold mayA at hm
  rcases bAt_half P hok n (Nat.le_refl n) a ha with h | ⟨j, hj, hmj, _, hfr⟩
  · have := hin a h; omega
  · have hv := (bV_lt P hok hj).1
    obtain ⟨f, hf⟩ : ∃ f : Nat, a.f = (f : Int) := ⟨a.f.toNat, by omega⟩
    obtain ⟨t, ht⟩ : ∃ t : Nat, a.t = (t : Int) := ⟨a.t.toNat, by omega⟩
    have h1 := mt (in_take P hok (k := j + 1) (v := f) (by omega) (by omega)).2 (fun x => (hfr f x).1 hf)
    have h2 := mt (in_take P hok (k := j + 1) (v := t) (by omega) (by omega)).2 (fun x => (hfr t x).2 ht)
    rw [hmj, hf, ht, ← hV, rankV_in hv (bAt_all P hok hv), rankV_in (by omega) (bAt_all P hok (by omega)), rankV_in (by omega) (bAt_all P hok (by omega)), rank_bV P hok hj]
    omega
theorem rowU_zero {s : Nat} : rowU P L n s 0 = (List.replicate n (-1 : Int)).set s 0 := rfl
theorem rowD_zero {s : Nat} : rowD P L n s 0 = rowU P L n s n := rfl
theorem take_fold {A : List Ar} {j : Nat} (h : j < A.length) (d : List Int) : (A.take (j + 1)).foldl rx d = rx ((A.take j).foldl rx d) A[j] := by
  rw [List.take_succ_eq_append_getElem h, List.foldl_append]; rfl
theorem up_full {s r : Nat} {A : List Ar} (hA : upA P L n r = A) {j : Nat} (hj : A.length ≤ j) : (A.take j).foldl rx (rowU P L n s r) = rowU P L n s (r + 1) := by
  rw [List.take_of_length_le hj, rowU_succ, hA]
theorem dn_full {s k r : Nat} (hr : n - 1 - k = r) {A : List Ar} (hA : dnA P L n r = A) {j : Nat} (hj : A.length ≤ j) : (A.take j).foldl rx (rowD P L n s k) = rowD P L n s (k + 1) := by
  rw [List.take_of_length_le hj, rowD_succ, hr, hA]
theorem up_stop {s r : Nat} {A : List Ar} (hA : upA P L n r = A) {j v : Nat} (hv : bV n P L r = v) {dz : List Int} (hd : (A.take j).foldl rx (rowU P L n s r) = dz) (h0 : dAt dz v < 0) : dz = rowU P L n s (r + 1) := by
  rw [rowU_succ, hA]
  have h1 : A.foldl rx (rowU P L n s r) = (A.drop j).foldl rx dz := by rw [← hd, ← List.foldl_append, List.take_append_drop]
  rw [h1]
  refine (rxs_no _ _ fun a ha => ?_).symm
  have h2 := List.mem_of_mem_drop ha
  rw [← hA] at h2
  have := (mem_outL.1 h2).2
  rw [this, hv]; exact h0
theorem up_arc (hok : NetOk n L) {r v : Nat} (hr : r < n) {A : List Ar} (hA : upA P L n r = A) (hv : bV n P L r = v) : ∀ a ∈ A, a.f = (v : Int) ∧ mayA n a := fun a ha => by
  rw [← hA] at ha
  exact ⟨by rw [← hv]; exact (mem_outL.1 ha).2, upA_may hok hr a ha⟩
theorem dn_arc (hok : NetOk n L) {r v : Nat} (hr : r < n) {A : List Ar} (hA : dnA P L n r = A) (hv : bV n P L r = v) : ∀ a ∈ A, a.t = (v : Int) ∧ mayA n a := fun a ha => by
  rw [← hA] at ha
  exact ⟨by rw [← hv]; exact (mem_inL.1 ha).2, dnA_may hok hr a ha⟩
theorem up_row (hok : NetOk n L) (hn : n ≤ 20) {s r : Nat} (hs : s < n) (hr : r < n) {A : List Ar} (hA : upA P L n r = A) (j : Nat) {dz : List Int} (hd : (A.take j).foldl rx (rowU P L n s r) = dz) : dz.length = n ∧ ∀ x, -1 ≤ dAt dz x ∧ dAt dz x ≤ 1000000000000000 := by
  subst hA hd
  refine ⟨by rw [rxs_len, rowU_len], fun x => ⟨?_, rowU_top hok hn hs hr j x⟩⟩
  exact rxs_low _ _ (fun a ha => upA_may hok hr a (List.mem_of_mem_take ha)) (rowU_len s r) (rowU_low hok hs (by omega)) x
theorem dn_row (hok : NetOk n L) (hn : n ≤ 20) {s k r : Nat} (hs : s < n) (hk : k < n) (hr : n - 1 - k = r) {A : List Ar} (hA : dnA P L n r = A) (j : Nat) {dz : List Int} (hd : (A.take j).foldl rx (rowD P L n s k) = dz) : dz.length = n ∧ ∀ x, -1 ≤ dAt dz x ∧ dAt dz x ≤ 1000000000000000 := by
  subst hr hA hd
  refine ⟨by rw [rxs_len, rowD_len], fun x => ⟨?_, rowD_top hok hn hs hk j x⟩⟩
  exact rxs_low _ _ (fun a ha => dnA_may hok (by omega) a (List.mem_of_mem_take ha)) (rowD_len s k) (rowD_low hok hs (by omega)) x
theorem rx_yes {d : List Int} {a : Ar} {f t : Nat} {xs w xd : Int} (hf : a.f = (f : Int)) (ht : a.t = (t : Int)) (hw : a.w = w) (h1 : dAt d f = xs) (h2 : dAt d t = xd) (h : 0 ≤ xs ∧ (xd < 0 ∨ xs + w < xd)) : rx d a = d.set t (xs + w) := by
  unfold rx
  rw [hf, ht, hw, Int.toNat_natCast, Int.toNat_natCast, h1, h2, if_pos h]
theorem rx_not {d : List Int} {a : Ar} {f t : Nat} {xs w xd : Int} (hf : a.f = (f : Int)) (ht : a.t = (t : Int)) (hw : a.w = w) (h1 : dAt d f = xs) (h2 : dAt d t = xd) (h : ¬ (0 ≤ xs ∧ (xd < 0 ∨ xs + w < xd))) : rx d a = d := by
  unfold rx
  rw [hf, ht, hw, Int.toNat_natCast, Int.toNat_natCast, h1, h2, if_neg h]
end

set_option maxHeartbeats 64000000 in
theorem lfar_all (w : World) (n : Nat) (h1n : 1 ≤ n) (h20 : n ≤ 20) (a : Option Addr) (ln c : Nat) (T0 : List T3) (hT : T0.length = ln) (hr : Rd w 3 (.slice a ln c) ln (T0.flatMap c3T)) (hln : ln ≤ 80) :
    Calls Tryz.prog 4 #[.int .i64 (n : Int), .slice a ln c] w fun e w' => e = .returned (.bool true) ∧ Mod (fun _ => False) w w' := by
 have y0 : decide ((n : Int) < 1) = false := by simp; omega
 have y1 : decide ((20 : Int) < (n : Int)) = false := by simp; omega
 have y2 : decide ((80 : Int) < (ln : Int)) = false := by simp; omega
 have y2n : decide (80 < ln) = false := by simp; omega
 obtain ⟨iA, hiA, hzA, hsA, hbA⟩ := info_parts Nt.infoA
 obtain ⟨iI, hiI, hzI, hsI, hbI⟩ := info_parts Nt.infoI
 obtain ⟨iB, hiB, hzB, hsB, hbB⟩ := info_parts infoBoF
 obtain ⟨P, hP⟩ := pick16 n (by omega)
 have HBU := Lib.hid (built16_any w n (by omega) a ln c T0 hT hr (by omega) P hP)
 have hok := net16_ok n T0
 have hin := net16_in n T0
 obtain ⟨L, hL⟩ : ∃ L, net16 n T0 = L := ⟨_, rfl⟩
 unfold Bu16P at HBU
 rw [hL] at HBU hok hin
 have htok := (bAt_ok P hok n (Nat.le_refl _)).tok
 obtain ⟨T, hTT⟩ : ∃ y, (bAt n P L n).T = y := ⟨_, rfl⟩
 obtain ⟨V, hVV⟩ : ∃ y, (bAt n P L n).V = y := ⟨_, rfl⟩
 have HRS := Lib.hid (fun k hk => rank_step (P := P) hok hVV k hk)
 have HAS := Lib.hid (fun r hr => at_step (P := P) hok hTT hVV r hr)
 have HHR := Lib.hid (half_ranks (P := P) hok (fun a ha => (hin a ha).1) hTT hVV)
 have HFA := Lib.hid (fun (s : Nat) (hs : s < n) => (netW_ex n (by omega) L (s : Int) (-1)).imp fun d hd => And.intro hd (rowD_far (P := P) hok (by omega) hP (fun a ha => by have := hin a ha; omega) hs hd))
 rw [hTT, hVV] at HBU
 rw [hTT] at htok
 have HLW := Lib.hid (fun (a : Ar) (ha : a ∈ L) => (by have := hin a ha; omega : a.w ≤ 1099511627776))
 have hlL4 : L.length ≤ 400 := by have := net_len hok; have : n * n ≤ 20 * 20 := Nat.mul_le_mul h20 h20; omega
 have hlT4 : T.length ≤ 400 := by have := net_len htok; have : n * n ≤ 20 * 20 := Nat.mul_le_mul h20 h20; omega
 have HLL := Lib.hid hlL4
 obtain ⟨lT, hlT⟩ : ∃ y, T.length = y := ⟨_, rfl⟩
 rw [hlT] at hlT4
 have HLT := Lib.hid hlT
 have HOK := Lib.hid (And.intro hok htok)
 clear hT hr hP hok hL hTT hVV htok hlT hin hlL4
 go_enter Tryz.func4, Tryz.ntmps4
 go_wp2_with fail
 refine HBU.out.mono ?_
 rintro e w1 ⟨p, F, p2, tq, rd, m, rfl, hlo, _, hrn, hm⟩
 obtain ⟨tl, rd1, mb, FT, hlv, _⟩ := id hlo
 have HM1 := Lib.hid hm
 clear HBU hm
 have HS : Hid (Ev (Mod (fun _ => False) w1) w1) := Lib.hid (Ev.mod w1)
 replace HS := Lib.hid ((Ev.lo hlo).and HS.out)
 replace HS := Lib.hid ((Ev.of (P := fun W => RN W m n L) fun W k => hrn.later k).and HS.out)
 replace HS := Lib.hid ((Ev.blk hlv.blk).and HS.out)
 replace HS := Lib.hid ((Ev.nt hlv.net).and HS.out)
 clear hlo hrn hlv
 have hmk := run_makeS (P := Tryz.prog) 48 4 iB (.bool false) Tryz.underlying48 hiB hzB rfl hsB n (by rw [hbB]; omega) (by omega) w1
 have ho0 := own_zrow w1 4 (.bool false) n w1.heap.size rfl (by omega)
 obtain ⟨sb, hrb⟩ : ∃ b, w1.heap.size = b := ⟨_, rfl⟩
 obtain ⟨wz, hwz⟩ : ∃ W, w1.alloc (.cells (zrow (.bool false) n) 4) = W := ⟨_, rfl⟩
 have hmz : Mod (fun _ => False) w1 wz := by rw [← hwz]; exact Mod.alloc _ _ _
 rw [hwz, hrb] at hmk ho0
 have HBHR1 := Lib.hid hrb
 have HZHR1 := Lib.hid hmz
 have hd0 : World.ownsRow wz 0 4 1 (.slice (some ⟨sb, 0, none⟩) n n) n ((seenL P L n 0).map Value.bool) := by rw [seenL_zero, List.map_replicate]; exact ho0
 have HR1 := Lib.hid hd0
 clear hd0 ho0 hwz hrb hmz
 have hbp := (HS.out.now).2.1
 have qp_0 := hbp.cell 0 rfl
 have qp_1 := hbp.cell 1 rfl
 have qp_2 := hbp.cell 2 rfl
 have lp := hbp.lt
 clear hbp
 go_wp2_with fail
 clear hmk
 replace HS := Lib.hid ((Ev.mod w1).and HS.out)
 go_loopw [9] (fun i wr => ∃ k : Nat, k ≤ n ∧ i = .int .i64 (k : Int) ∧ World.ownsRow wr 0 4 1 (.slice (some ⟨sb, 0, none⟩) n n) n ((seenL P L n k).map Value.bool) ∧ Mod (fun _ => False) w1 wr) (fun i _ => n - (intOf i).toNat)
 case atStart => exact ⟨0, by omega, rfl, HR1.out, HZHR1.out⟩
 case round =>
  obtain ⟨k, hk, rfl, hrow, hmr⟩ := hrel
  obtain ⟨wo, hwo⟩ : ∃ x : World, x = wr := ⟨_, rfl⟩
  subst hwo
  replace HS := Lib.hid (HS.out.step hmr)
  clear hmr
  clear qp_0 qp_1 qp_2 lp
  have hbp := (HS.out.now).2.2.1
  have qp_0 := hbp.cell 0 rfl
  have qp_1 := hbp.cell 1 rfl
  have qp_2 := hbp.cell 2 rfl
  have lp := hbp.lt
  clear hbp
  have HROW := Lib.hid hrow
  clear hrow
  by_cases hlt : k < n
  case pos =>
   have z0 : decide ((k : Int) < (n : Int)) = true := by simp; omega
   obtain ⟨r, hrn, hrk, hs0, hs1, _⟩ := HRS.out k hlt
   have HRK := Lib.hid hrk
   have hix := fun wx => ownB_ix iB hiB hsB sb n r hrn wx
   have q3 := (Room.ofOwn HROW.out r (by omega)).free
   have q4 := ownB_at HROW.out r false hs0
   have z1 : decide ((r : Int) < 0) = false := by simp
   have z2 : decide ((n : Int) ≤ (r : Int)) = false := by simp; omega
   have hst := (HROW.out.stored r (.bool true)).1
   rw [← List.map_set, hs1] at hst
   have HST := Lib.hid hst
   have HMS := Lib.hid (Mod.trans (H := fun _ => False) (HS.out.now).1 (Mod.setCell wo ⟨sb, r, none⟩ (.bool true) rfl : Mod (fun i => i = sb) wo _) (fun _ _ e => e) (fun i hi e => by have h1 := HBHR1.out; have h2 : i = sb := e; omega))
   clear hst
   clear hrk hs0 hs1
   go_wp2_with fail
   go_wp2_with fail
   refine (lv_rank ((HS.out.now).2.2.2.2.1) (k : Int) (r : Int) HRK.out).mono ?_
   rintro e w' ⟨rfl, rfl⟩
   go_wp2_with fail
   go_roundw
   case rel => exact ⟨k + 1, hlt, by go_num, HST.out, HMS.out⟩
   case measure => simp [intOf]; omega
  case neg =>
   have z0 : decide ((k : Int) < (n : Int)) = false := by simp; omega
   have HAL := Lib.hid (nt_all ((HS.out.now).2.1))
   unfold NewR at HAL
   rw [HLT.out] at HAL
   clear HROW
   go_wp2_with fail
   go_wp2_with fail
   refine (HAL.out).mono ?_
   rintro e wq1 ⟨aa, ca, rfl, hoa, hmm⟩
   replace HS := Lib.hid (HS.out.step hmm)
   clear hmm
   replace HS := Lib.hid ((Ev.rd (Rd.ofOwn hoa)).and HS.out)
   clear hoa HAL
   clear qp_0 qp_1 qp_2 lp
   go_wp2_with fail
   replace HS := Lib.hid ((Ev.mod wq1).and HS.out)
   go_loopw [12] (fun i wr => ∃ k : Nat, k ≤ lT ∧ i = .int .i64 (k : Int) ∧ Mod (fun _ => False) wq1 wr) (fun i _ => lT - (intOf i).toNat)
   case atStart => exact ⟨0, by omega, rfl, Mod.refl _ _⟩
   case round =>
    obtain ⟨k, hk, rfl, hmr⟩ := hrel
    obtain ⟨wo, hwo⟩ : ∃ x : World, x = wr := ⟨_, rfl⟩
    subst hwo
    replace HS := Lib.hid (HS.out.step hmr)
    clear hmr
    by_cases hlt : k < lT
    case pos =>
     have z0 : decide ((k : Int) < (lT : Int)) = true := by simp; omega
     have hkl : k < T.length := by rw [HLT.out]; exact hlt
     have hmem := List.getElem_mem hkl
     obtain ⟨y, hy⟩ : ∃ y, T[k] = y := ⟨_, rfl⟩
     rw [hy] at hmem
     obtain ⟨yf, yt, yw, ym⟩ := y
     have hhr := HHR.out _ hmem
     simp only at hhr
     obtain ⟨eb, eo, hpe, c0, c1, c2, c3⟩ := rd4 ((HS.out.now).2.1) k hkl
     have hix := fun wx => run_indexS (P := Tryz.prog) wx 34 50 iA 4 Tryz.underlying34 hiA hsA aa lT ca k hlt (((HS.out.now).2.1).some_ (by omega))
     rw [hpe] at hix
     rw [hy] at c0 c1 c2 c3
     simp only at c0 c1 c2 c3
     clear hpe hy hmem
     have HLO := Lib.hid ((HS.out.now).2.2.2.2.2.2.1)
     by_cases hym : ym < 0
     ·
      skip
      have z1 : decide (0 ≤ ym) = false := decide_eq_false (by omega)
      clear hhr
      go_upto_region 18 with fail
      go_quiet (fail)
      go_wp2_with fail
      have HMQ := Lib.hid (Mod.drewN (fun _ => False) wo nq)
      go_roundw
      case rel => exact ⟨k + 1, hlt, by go_num, ((HS.out.now).1).of2 HMQ.out⟩
      case measure => simp [intOf]; omega
     ·
      skip
      have z1 : decide (0 ≤ ym) = true := decide_eq_true (by omega)
      obtain ⟨rm, rf, rt, g1, g2, g3, g4, g5⟩ := hhr (by omega)
      have z2 : decide (rf < rm) = false := decide_eq_false (by omega)
      have z3 : decide (rt < rm) = false := decide_eq_false (by omega)
      go_upto_region 18 with fail
      go_quiet ((go_at_call 19; exact Calls.quiet_of_same (lv_rank_q HLO.out (by assumption) _)))
      go_wp2_with fail
      have HMQ := Lib.hid (Mod.drewN (fun _ => False) wo nq)
      go_roundw
      case rel => exact ⟨k + 1, hlt, by go_num, ((HS.out.now).1).of2 HMQ.out⟩
      case measure => simp [intOf]; omega
    case neg =>
     have z0 : decide ((k : Int) < (lT : Int)) = false := by simp; omega
     have hmk := run_makeS (P := Tryz.prog) 40 3 iI (.int .i64 0) Tryz.underlying40 hiI hzI rfl hsI n (by rw [hbI]; omega) (by omega) wo
     have ho0 := own_zrow wo 3 (.int .i64 0) n wo.heap.size rfl (by omega)
     obtain ⟨ab, hrb⟩ : ∃ b, wo.heap.size = b := ⟨_, rfl⟩
     obtain ⟨wz, hwz⟩ : ∃ W, wo.alloc (.cells (zrow (.int .i64 0) n) 3) = W := ⟨_, rfl⟩
     have hmz : Mod (fun _ => False) wo wz := by rw [← hwz]; exact Mod.alloc _ _ _
     rw [hwz, hrb] at hmk ho0
     have HBHR2 := Lib.hid hrb
     have HZHR2 := Lib.hid hmz
     have hd0 : World.ownsRow wz 0 3 1 (.slice (some ⟨ab, 0, none⟩) n n) n ((atL P L n 0).map (Value.int .i64)) := by rw [atL_zero, List.map_replicate]; exact ho0
     have HR2 := Lib.hid hd0
     clear hd0 ho0 hwz hrb hmz
     go_wp2_with fail
     clear hmk
     replace HS := Lib.hid ((Ev.mod wo).and HS.out)
     go_loopw [14] (fun i wr => ∃ k : Nat, k ≤ n ∧ i = .int .i64 (k : Int) ∧ World.ownsRow wr 0 3 1 (.slice (some ⟨ab, 0, none⟩) n n) n ((atL P L n k).map (Value.int .i64)) ∧ Mod (fun _ => False) wo wr) (fun i _ => n - (intOf i).toNat)
     case atStart => exact ⟨0, by omega, rfl, HR2.out, HZHR2.out⟩
     case round =>
      obtain ⟨k, hk, rfl, hrow, hmr⟩ := hrel
      obtain ⟨wo3, hwo⟩ : ∃ x : World, x = wr := ⟨_, rfl⟩
      subst hwo
      replace HS := Lib.hid (HS.out.step hmr)
      clear hmr
      have HROW := Lib.hid hrow
      clear hrow
      by_cases hlt : k < n
      case pos =>
       have z0 : decide ((k : Int) < (n : Int)) = true := by simp; omega
       obtain ⟨r, hrn, hrk, _, _, hs1⟩ := HRS.out k hlt
       have HRK := Lib.hid hrk
       have hix := fun wx => own_ix iI hiI hsI ab n r hrn wx
       have q3 := (Room.ofOwn HROW.out r (by omega)).free
       have q4 := own_at HROW.out r hrn
       have hst := (HROW.out.stored r (.int .i64 (k : Int))).1
       rw [← List.map_set, hs1] at hst
       have HST := Lib.hid hst
       have HMS := Lib.hid (Mod.trans (H := fun _ => False) (HS.out.now).1 (Mod.setCell wo3 ⟨ab, r, none⟩ (.int .i64 (k : Int)) rfl : Mod (fun i => i = ab) wo3 _) (fun _ _ e => e) (fun i hi e => by have h1 := HBHR2.out; have h2 : i = ab := e; omega))
       clear hst
       clear hrk hs1
       go_wp2_with fail
       go_wp2_with fail
       refine (lv_rank ((HS.out.now).2.2.2.2.2.2.2.1) (k : Int) (r : Int) HRK.out).mono ?_
       rintro e w' ⟨rfl, rfl⟩
       go_wp2_with fail
       go_roundw
       case rel => exact ⟨k + 1, hlt, by go_num, HST.out, HMS.out⟩
       case measure => simp [intOf]; omega
      case neg =>
       have z0 : decide ((k : Int) < (n : Int)) = false := by simp; omega
       have hkn : k = n := by omega
       have hrd := Rd.ofOwn HROW.out
       rw [hkn] at hrd
       replace HS := Lib.hid ((Ev.rd hrd).and HS.out)
       clear hrd HROW hkn
       go_wp2_with fail
       replace HS := Lib.hid ((Ev.mod wo3).and HS.out)
       go_loopw [15] (fun i wr => ∃ s : Nat, s ≤ n ∧ i = .int .i64 (s : Int) ∧ Mod (fun _ => False) wo3 wr) (fun i _ => n - (intOf i).toNat)
       case atStart => exact ⟨0, by omega, rfl, Mod.refl _ _⟩
       case round =>
        obtain ⟨s, hs, rfl, hmr⟩ := hrel
        obtain ⟨wo4, hwo⟩ : ∃ x : World, x = wr := ⟨_, rfl⟩
        subst hwo
        replace HS := Lib.hid (HS.out.step hmr)
        clear hmr
        by_cases hsn : s < n
        case pos =>
         as_aux_lemma =>
          have z0 : decide ((s : Int) < (n : Int)) = true := by simp; omega
          have HB4 := HS
          have hmk := run_makeS (P := Tryz.prog) 40 3 iI (.int .i64 0) Tryz.underlying40 hiI hzI rfl hsI n (by rw [hbI]; omega) (by omega) wo4
          have ho0 := own_zrow wo4 3 (.int .i64 0) n wo4.heap.size rfl (by omega)
          obtain ⟨db, hrb⟩ : ∃ b, wo4.heap.size = b := ⟨_, rfl⟩
          obtain ⟨wz, hwz⟩ : ∃ W, wo4.alloc (.cells (zrow (.int .i64 0) n) 3) = W := ⟨_, rfl⟩
          have hmz : Mod (fun _ => False) wo4 wz := by rw [← hwz]; exact Mod.alloc _ _ _
          rw [hwz, hrb] at hmk ho0
          have HBHR3 := Lib.hid hrb
          have HZHR3 := Lib.hid hmz
          have hd0 : World.ownsRow wz 0 3 1 (.slice (some ⟨db, 0, none⟩) n n) n ((fillD n 0).map (Value.int .i64)) := by rw [fillD_zero, List.map_replicate]; exact ho0
          have HR3 := Lib.hid hd0
          clear hd0 ho0 hwz hrb hmz
          go_wp2_with fail
          clear hmk z0
          replace HS := Lib.hid ((Ev.mod wo4).and HS.out)
          go_loopw [17] (fun i wr => ∃ k : Nat, k ≤ n ∧ i = .int .i64 (k : Int) ∧ World.ownsRow wr 0 3 1 (.slice (some ⟨db, 0, none⟩) n n) n ((fillD n k).map (Value.int .i64)) ∧ Mod (fun _ => False) wo4 wr) (fun i _ => n - (intOf i).toNat)
          case atStart => exact ⟨0, by omega, rfl, HR3.out, HZHR3.out⟩
          case round =>
           obtain ⟨k, hk, rfl, hrow, hmr⟩ := hrel
           obtain ⟨wo5, hwo⟩ : ∃ x : World, x = wr := ⟨_, rfl⟩
           subst hwo
           replace HS := Lib.hid (HS.out.step hmr)
           clear hmr
           have HROW := Lib.hid hrow
           clear hrow
           by_cases hlt : k < n
           case pos =>
            have z0 : decide ((k : Int) < (n : Int)) = true := by simp; omega
            have hix := fun wx => own_ix iI hiI hsI db n k hlt wx
            have q3 := (Room.ofOwn HROW.out k (by omega)).free
            have q4 := own_at HROW.out k hlt
            have hst := (HROW.out.stored k (.int .i64 (-1))).1
            rw [← List.map_set, fillD_set n k hlt] at hst
            have HST := Lib.hid hst
            have HMS := Lib.hid (Mod.trans (H := fun _ => False) (HS.out.now).1 (Mod.setCell wo5 ⟨db, k, none⟩ (.int .i64 (-1)) rfl : Mod (fun i => i = db) wo5 _) (fun _ _ e => e) (fun i hi e => by have h1 := HBHR3.out; have h2 : i = db := e; omega))
            clear hst
            go_wp2_with fail
            go_roundw
            case rel => exact ⟨k + 1, hlt, by go_num, HST.out, HMS.out⟩
            case measure => simp [intOf]; omega
           case neg =>
            have z0 : decide ((k : Int) < (n : Int)) = false := by simp; omega
            have hkn : k = n := by omega
            have hix := fun wx => own_ix iI hiI hsI db n s hsn wx
            have q3 := (Room.ofOwn HROW.out s (by omega)).free
            have q4 := own_at HROW.out s hsn
            have hst := (HROW.out.stored s (.int .i64 0)).1
            rw [hkn, ← List.map_set, fillD_all n] at hst
            have HST := Lib.hid hst
            have HMS := Lib.hid (Mod.trans (H := fun _ => False) (HS.out.now).1 (Mod.setCell wo5 ⟨db, s, none⟩ (.int .i64 0) rfl : Mod (fun i => i = db) wo5 _) (fun _ _ e => e) (fun i hi e => by have h1 := HBHR3.out; have h2 : i = db := e; omega))
            clear hst
            clear hkn
            go_wp2_with fail
            clear q3 q4 hix z0 HROW
            replace HS := HB4
            replace HS := Lib.hid ((Ev.mod wo4).and HS.out)
            go_loopw [18] (fun i wr => ∃ r : Nat, r ≤ n ∧ i = .int .i64 (r : Int) ∧ World.ownsRow wr 0 3 1 (.slice (some ⟨db, 0, none⟩) n n) n ((rowU P L n s r).map (Value.int .i64)) ∧ Mod (fun _ => False) wo4 wr) (fun i _ => n - (intOf i).toNat)
            case atStart => exact ⟨0, by omega, rfl, (by rw [rowU_zero]; exact HST.out), HMS.out⟩
            case round =>
             obtain ⟨r, hr, rfl, hrow, hmr⟩ := hrel
             obtain ⟨wo6, hwo⟩ : ∃ x : World, x = wr := ⟨_, rfl⟩
             subst hwo
             replace HS := Lib.hid (HS.out.step hmr)
             clear hmr
             clear HST HMS
             have HROW := Lib.hid hrow
             clear hrow
             by_cases hrt : r < n
             case pos =>
              as_aux_lemma =>
               have z0 : decide ((r : Int) < (n : Int)) = true := by simp; omega
               obtain ⟨v, hvn, hbv, hat, hup, hdn⟩ := HAS.out r hrt
               have qa : World.cell? wo6 ⟨ab, r, none⟩ = some (.int .i64 (v : Int)) := by
                have := ((HS.out.now).2.2.1).at_ (i := r) (u := .int .i64 (v : Int)) (by rw [List.getElem?_map, hat]; rfl)
                simpa using this
               have hixr := fun wx => own_ix iI hiI hsI ab n r hrt wx
               have HUP := Lib.hid (lv_up2 ((HS.out.now).2.2.2.2.2.2.2.2.2.2.1) (v : Int))
               unfold Up2P at HUP
               rw [hup] at HUP
               obtain ⟨A, hA⟩ : ∃ y, upA P L n r = y := ⟨_, rfl⟩
               rw [hA] at HUP
               obtain ⟨nu, hnu⟩ : ∃ y, A.length = y := ⟨_, rfl⟩
               rw [hnu] at HUP
               have hnu2 : nu ≤ n := by rw [← hnu, ← hA]; exact upA_len HOK.out.1 hrt
               have HNU := Lib.hid hnu
               have HAR := Lib.hid (up_arc HOK.out.1 hrt hA hbv)
               have HRW := Lib.hid (fun (j : Nat) (dz : List Int) (hd : (A.take j).foldl rx (rowU P L n s r) = dz) => up_row HOK.out.1 h20 hsn hrt hA j hd)
               have HFU := Lib.hid (fun (j : Nat) (hj : A.length ≤ j) => up_full (P := P) (L := L) (n := n) (s := s) hA hj)
               have HSP := Lib.hid (fun (j : Nat) (dz : List Int) (hd : (A.take j).foldl rx (rowU P L n s r) = dz) (h0 : dAt dz v < 0) => up_stop hA hbv hd h0)
               have hdlt : db < wo6.heap.size := World.block_lt_of_cell? _ _ (own_at HROW.out v hvn)
               clear hat hup hdn hbv hnu hA
               go_wp2_with fail
               go_wp2_with fail
               refine (HUP.out).mono ?_
               rintro e wq2 ⟨ua, uc, rfl, hur, huf, hmm⟩
               have HMU := Lib.hid hmm
               replace HS := Lib.hid (HS.out.step hmm)
               clear hmm
               have HUR := Lib.hid hur
               have hrw2 := Own.keep HROW.out HMU.out (fun _ _ e => e)
               have HROW7 := Lib.hid hrw2
               have HNE : Hid (∀ i, (Value.slice ua nu uc).ownBlock = some i → i ≠ db) := Lib.hid (fun i hi e => by have := huf i hi; omega)
               have HM7 := Lib.hid ((HS.out.now).1)
               clear hur huf hrw2 HUP HMU hdlt qa hixr z0 HROW
               go_wp2_with fail
               replace HS := HB4
               replace HS := Lib.hid ((Ev.mod wo4).and HS.out)
               go_loopw [21] (fun i wr => ∃ j : Nat, j ≤ nu ∧ i = .int .i64 (j : Int) ∧ World.ownsRow wr 0 3 1 (.slice (some ⟨db, 0, none⟩) n n) n (((A.take j).foldl rx (rowU P L n s r)).map (Value.int .i64)) ∧ Rd wr 4 (.slice ua nu uc) nu (A.flatMap c4) ∧ Mod (fun _ => False) wo4 wr) (fun i _ => nu - (intOf i).toNat)
               case atStart => exact ⟨0, by omega, rfl, (by rw [List.take_zero, List.foldl_nil]; exact HROW7.out), HUR.out, HM7.out⟩
               case round =>
                obtain ⟨j, hj, rfl, hrow, hur, hmr⟩ := hrel
                obtain ⟨wo7, hwo⟩ : ∃ x : World, x = wr := ⟨_, rfl⟩
                subst hwo
                replace HS := Lib.hid (HS.out.step hmr)
                clear hmr
                obtain ⟨dz, hdz⟩ : ∃ y, (A.take j).foldl rx (rowU P L n s r) = y := ⟨_, rfl⟩
                rw [hdz] at hrow
                have HDZ := Lib.hid hdz
                obtain ⟨hdl, hdb⟩ := HRW.out j dz hdz
                have HROW := Lib.hid hrow
                have HUR2 := Lib.hid hur
                clear hrow hdz HROW7 HUR HM7
                by_cases hlt : j < nu
                case neg =>
                 have z0 : decide ((j : Int) < (nu : Int)) = false := by simp; omega
                 have hfu := HFU.out j (by have := HNU.out; omega)
                 rw [HDZ.out] at hfu
                 have hrow := HROW.out
                 rw [hfu] at hrow
                 have HROW9 := Lib.hid hrow
                 clear hrow hfu hur hdb
                 go_wp2_with fail
                 go_roundw
                 case rel => exact ⟨r + 1, hrt, by go_num, HROW9.out, (HS.out.now).1⟩
                 case measure => simp [intOf]; omega
                case pos =>
                 have z0 : decide ((j : Int) < (nu : Int)) = true := by simp; omega
                 have hjl : j < A.length := by rw [HNU.out]; exact hlt
                 have hmem := List.getElem_mem hjl
                 have htf := take_fold hjl (rowU P L n s r)
                 rw [HDZ.out] at htf
                 obtain ⟨y, hy⟩ : ∃ y, A[j] = y := ⟨_, rfl⟩
                 rw [hy] at hmem htf
                 obtain ⟨hya, hyb⟩ := HAR.out y hmem
                 unfold mayA at hyb
                 obtain ⟨yt, hyt⟩ : ∃ f : Nat, y.t = (f : Int) := Int.eq_ofNat_of_zero_le (by omega)
                 have hyf := hya
                 have hfn : yt < n := by omega
                 obtain ⟨yw, hyw⟩ : ∃ x, y.w = x := ⟨_, rfl⟩
                 have hwb : 1 ≤ yw ∧ yw ≤ 1099511627776 := by omega
                 obtain ⟨xs, hxs⟩ : ∃ x, dAt dz v = x := ⟨_, rfl⟩
                 obtain ⟨xd, hxd⟩ : ∃ x, dAt dz yt = x := ⟨_, rfl⟩
                 have hbs := hdb v
                 have hbd := hdb yt
                 rw [hxs] at hbs
                 rw [hxd] at hbd
                 have HYES := Lib.hid (fun h => (htf.trans (rx_yes (xs := xs) (w := yw) (xd := xd) hyf hyt hyw hxs hxd h)))
                 have HNOT := Lib.hid (fun h => (htf.trans (rx_not (xs := xs) (w := yw) (xd := xd) hyf hyt hyw hxs hxd h)))
                 obtain ⟨eb, eo, hpe, e0, e1, e2, e3⟩ := rd4 hur j hjl
                 have hixu := fun wx => run_indexS (P := Tryz.prog) wx 34 50 iA 4 Tryz.underlying34 hiA hsA ua nu uc j hlt (hur.some_ (by omega))
                 rw [hpe] at hixu
                 rw [hy] at e0 e1 e2 e3
                 rw [hyf] at e0
                 rw [hyt] at e1
                 rw [hyw] at e2
                 have qs := own_at HROW.out v (by omega)
                 have qd := own_at HROW.out yt (by omega)
                 rw [hxs] at qs
                 rw [hxd] at qd
                 have hixs := fun wx => own_ix iI hiI hsI db n v (by omega) wx
                 have hixd := fun wx => own_ix iI hiI hsI db n yt (by omega) wx
                 have hsum : IntKind.i64.wrap (xs + yw) = xs + yw := IntWalk.i64_in _ (by omega)
                 have y8 : decide ((yt : Int) < 0) = false := by simp
                 have y9 : decide ((n : Int) ≤ (yt : Int)) = false := by simp; omega
                 have hdv : yt < n ∧ db < db + 1 := ⟨by omega, by omega⟩
                 clear hmem htf hy hya hyb hyt hyf hyw hxs hxd hpe hur hdb e3 e0
                 by_cases hx0 : xs < 0
                 case pos =>
                  have z1 : decide (0 ≤ xs) = false := decide_eq_false (by omega)
                  skip
                  have hdv2 : dAt dz v = xs := by have h1 := own_at HROW.out v hvn; rw [qs] at h1; exact (Value.int.inj (Option.some.inj h1)).2.symm
                  have hsp := HSP.out j dz HDZ.out (by omega)
                  have hrow := HROW.out
                  rw [hsp] at hrow
                  have HROW9 := Lib.hid hrow
                  clear hrow hsp hdv2
                  go_wp2_with fail
                  go_roundw
                  case rel => exact ⟨r + 1, hrt, by go_num, HROW9.out, (HS.out.now).1⟩
                  case measure => simp [intOf]; omega
                 case neg =>
                  have z1 : decide (0 ≤ xs) = true := decide_eq_true (by omega)
                  go_upto_region 45 with fail
                  clear z0 e1  y8 y9
                  by_cases hc0 : ¬ (xd < 0 ∨ xs + yw < xd)
                  ·
                   as_aux_lemma =>
                    have z2 : decide (xd < 0) = false := decide_eq_false (by omega)
                    have z3 : decide (xs + yw < xd) = false := decide_eq_false (by omega)
                    have hnot := HNOT.out (by omega)
                    have HNX := Lib.hid hnot
                    clear hnot
                    go_quiet (fail)
                    go_wp2_with fail
                    go_roundw
                    case rel => exact ⟨j + 1, hlt, by go_num, by rw [HNX.out]; exact Own.keep HROW.out (Mod.drewN (fun _ => False) _ _) (fun _ _ e => e), HUR2.out.keep (Mod.drewN (fun _ => False) _ _) (fun _ _ e => e), ((HS.out.now).1).of2 (Mod.drewN _ _ _)⟩
                    case measure => simp [intOf]; omega
                  ·
                   skip
                   by_cases hc1 : xd < 0
                   ·
                    as_aux_lemma =>
                     have z2 : decide (xd < 0) = true := decide_eq_true (by omega)
                     have hyes := HYES.out (by omega)
                     have HYX := Lib.hid hyes
                     clear hyes
                     go_quiet (fail)
                     go_upto_region 46 with fail
                     obtain ⟨w4, hw4⟩ : ∃ y, World.drewN wo7 nq = y := ⟨_, rfl⟩
                     have hm4 : Mod (fun _ => False) wo7 w4 := by rw [← hw4]; exact Mod.drewN _ _ _
                     (try rw [hw4])
                     have HM4 := Lib.hid (((HS.out.now).1).of2 hm4)
                     have hrow4 := Own.keep HROW.out hm4 (fun _ _ e => e)
                     have HROW4 := Lib.hid hrow4
                     have HUR4 := Lib.hid (HUR2.out.keep hm4 (fun _ _ e => e))
                     replace qs := hm4.cell qs (fun e => e)
                     replace qd := hm4.cell qd (fun e => e)
                     replace e2 := hm4.cell e2 (fun e => e)
                     have HQD := Lib.hid qd
                     have HG4 : Hid (∀ W, Mod (fun _ => False) w4 W → W.cell? ⟨db, yt, none⟩ = some (.int .i64 xd) ∧ W.frozen? ⟨db, yt, none⟩ = false) := Lib.hid (fun W hm => ⟨hm.cell HQD.out (fun e => e), (Room.ofOwn (Own.keep HROW4.out hm (fun _ _ e => e)) yt (by omega)).free⟩)
                     have HSTO : Hid (∀ W W2, Mod (fun _ => False) w4 W → W2 = W.setCell ⟨db, yt, none⟩ (.int .i64 (xs + yw)) → World.ownsRow W2 0 3 1 (.slice (some ⟨db, 0, none⟩) n n) n (((A.take (j + 1)).foldl rx (rowU P L n s r)).map (Value.int .i64)) ∧ Rd W2 4 (.slice ua nu uc) nu (A.flatMap c4) ∧ Mod (fun _ => False) wo4 W2) := Lib.hid (fun W W2 hm hW2 => by
                      subst hW2
                      have hst := ((Own.keep HROW4.out hm (fun _ _ e => e)).stored yt (.int .i64 (xs + yw))).1
                      rw [← List.map_set] at hst
                      have hms : Mod (fun i => i = db) W (W.setCell ⟨db, yt, none⟩ (.int .i64 (xs + yw))) := Mod.setCell W _ _ rfl
                      exact ⟨by rw [HYX.out]; exact hst, (HUR4.out.keep hm (fun _ _ e => e)).keep hms (fun i hi e => HNE.out i hi e), (HM4.out.of2 hm).trans hms (fun _ _ e => e) (fun i hi e => by have h1 := HBHR3.out; have h2 : i = db := e; omega)⟩)
                     clear hw4 hm4 hrow4
                     go_still_tail 13, (by kernel_rfl)
                     change wpList _ _ _ _ _ (World.drew w4)
                     obtain ⟨k1, k2⟩ := HG4.out _ (Mod.drew (fun _ => False) w4)
                     have hm5 : Mod (fun _ => False) w4 (World.drew w4) := Mod.drew _ _
                     have HM5 := Lib.hid hm5
                     clear hm5
                     go_wp2_with fail
                     go_roundw
                     case rel => exact ⟨j + 1, hlt, by go_num, (HSTO.out _ _ HM5.out rfl).1, (HSTO.out _ _ HM5.out rfl).2.1, (HSTO.out _ _ HM5.out rfl).2.2⟩
                     case measure => simp [intOf]; omega
                   ·
                    skip
                    as_aux_lemma =>
                     have z2 : decide (xd < 0) = false := decide_eq_false (by omega)
                     have z3 : decide (xs + yw < xd) = true := decide_eq_true (by omega)
                     have hyes := HYES.out (by omega)
                     have HYX := Lib.hid hyes
                     clear hyes
                     go_quiet (fail)
                     go_upto_region 46 with fail
                     obtain ⟨w4, hw4⟩ : ∃ y, World.drewN wo7 nq = y := ⟨_, rfl⟩
                     have hm4 : Mod (fun _ => False) wo7 w4 := by rw [← hw4]; exact Mod.drewN _ _ _
                     (try rw [hw4])
                     have HM4 := Lib.hid (((HS.out.now).1).of2 hm4)
                     have hrow4 := Own.keep HROW.out hm4 (fun _ _ e => e)
                     have HROW4 := Lib.hid hrow4
                     have HUR4 := Lib.hid (HUR2.out.keep hm4 (fun _ _ e => e))
                     replace qs := hm4.cell qs (fun e => e)
                     replace qd := hm4.cell qd (fun e => e)
                     replace e2 := hm4.cell e2 (fun e => e)
                     have HQD := Lib.hid qd
                     have HG4 : Hid (∀ W, Mod (fun _ => False) w4 W → W.cell? ⟨db, yt, none⟩ = some (.int .i64 xd) ∧ W.frozen? ⟨db, yt, none⟩ = false) := Lib.hid (fun W hm => ⟨hm.cell HQD.out (fun e => e), (Room.ofOwn (Own.keep HROW4.out hm (fun _ _ e => e)) yt (by omega)).free⟩)
                     have HSTO : Hid (∀ W W2, Mod (fun _ => False) w4 W → W2 = W.setCell ⟨db, yt, none⟩ (.int .i64 (xs + yw)) → World.ownsRow W2 0 3 1 (.slice (some ⟨db, 0, none⟩) n n) n (((A.take (j + 1)).foldl rx (rowU P L n s r)).map (Value.int .i64)) ∧ Rd W2 4 (.slice ua nu uc) nu (A.flatMap c4) ∧ Mod (fun _ => False) wo4 W2) := Lib.hid (fun W W2 hm hW2 => by
                      subst hW2
                      have hst := ((Own.keep HROW4.out hm (fun _ _ e => e)).stored yt (.int .i64 (xs + yw))).1
                      rw [← List.map_set] at hst
                      have hms : Mod (fun i => i = db) W (W.setCell ⟨db, yt, none⟩ (.int .i64 (xs + yw))) := Mod.setCell W _ _ rfl
                      exact ⟨by rw [HYX.out]; exact hst, (HUR4.out.keep hm (fun _ _ e => e)).keep hms (fun i hi e => HNE.out i hi e), (HM4.out.of2 hm).trans hms (fun _ _ e => e) (fun i hi e => by have h1 := HBHR3.out; have h2 : i = db := e; omega)⟩)
                     clear hw4 hm4 hrow4
                     go_still_tail 13, (by kernel_rfl)
                     change wpList _ _ _ _ _ (World.drew w4)
                     obtain ⟨k1, k2⟩ := HG4.out _ (Mod.drew (fun _ => False) w4)
                     have hm5 : Mod (fun _ => False) w4 (World.drew w4) := Mod.drew _ _
                     have HM5 := Lib.hid hm5
                     clear hm5
                     go_wp2_with fail
                     go_roundw
                     case rel => exact ⟨j + 1, hlt, by go_num, (HSTO.out _ _ HM5.out rfl).1, (HSTO.out _ _ HM5.out rfl).2.1, (HSTO.out _ _ HM5.out rfl).2.2⟩
                     case measure => simp [intOf]; omega
             case neg =>
              have z0 : decide ((r : Int) < (n : Int)) = false := by simp; omega
              have hrn2 : r = n := by omega
              have hsub : IntKind.i64.wrap ((n : Int) - 1) = (n : Int) - 1 := IntWalk.i64_in _ (by omega)
              have hrow := HROW.out
              rw [hrn2] at hrow
              have HROW8 := Lib.hid hrow
              have HM8 := Lib.hid ((HS.out.now).1)
              clear hrow HROW hrn2
              go_wp2_with fail
              replace HS := HB4
              replace HS := Lib.hid ((Ev.mod wo4).and HS.out)
              go_loopw [23] (fun i wr => ∃ k : Nat, k ≤ n ∧ i = .int .i64 ((n : Int) - 1 - (k : Int)) ∧ World.ownsRow wr 0 3 1 (.slice (some ⟨db, 0, none⟩) n n) n ((rowD P L n s k).map (Value.int .i64)) ∧ Mod (fun _ => False) wo4 wr) (fun i _ => (intOf i + 1).toNat)
              case atStart => exact ⟨0, by omega, by rw [show ((n : Int) - 1 - ((0 : Nat) : Int)) = (n : Int) - 1 by omega], (by rw [rowD_zero]; exact HROW8.out), HM8.out⟩
              case round =>
               obtain ⟨k, hk, rfl, hrow, hmr⟩ := hrel
               obtain ⟨wo8, hwo⟩ : ∃ x : World, x = wr := ⟨_, rfl⟩
               subst hwo
               replace HS := Lib.hid (HS.out.step hmr)
               clear hmr
               clear HROW8 HM8
               have HROW := Lib.hid hrow
               clear hrow
               by_cases hkt : k < n
               case pos =>
                as_aux_lemma =>
                 obtain ⟨r, hr9⟩ : ∃ r : Nat, (n : Int) - 1 - (k : Int) = (r : Int) := Int.eq_ofNat_of_zero_le (by omega)
                 rw [hr9]
                 have HR9 := Lib.hid hr9
                 have hrk : n - 1 - k = r := by omega
                 have hrt : r < n := by omega
                 have z0 : decide ((0 : Int) ≤ (r : Int)) = true := by simp
                 have hsub : IntKind.i64.wrap ((r : Int) - 1) = (r : Int) - 1 := IntWalk.i64_in _ (by omega)
                 obtain ⟨v, hvn, hbv, hat, hup, hdn⟩ := HAS.out r hrt
                 have qa : World.cell? wo8 ⟨ab, r, none⟩ = some (.int .i64 (v : Int)) := by
                  have := ((HS.out.now).2.2.1).at_ (i := r) (u := .int .i64 (v : Int)) (by rw [List.getElem?_map, hat]; rfl)
                  simpa using this
                 have hixr := fun wx => own_ix iI hiI hsI ab n r hrt wx
                 have HUP := Lib.hid (lv_down2 ((HS.out.now).2.2.2.2.2.2.2.2.2.2.1) (v : Int))
                 unfold Down2P at HUP
                 rw [hdn] at HUP
                 obtain ⟨A, hA⟩ : ∃ y, dnA P L n r = y := ⟨_, rfl⟩
                 rw [hA] at HUP
                 obtain ⟨nu, hnu⟩ : ∃ y, A.length = y := ⟨_, rfl⟩
                 rw [hnu] at HUP
                 have hnu2 : nu ≤ n := by rw [← hnu, ← hA]; exact dnA_len HOK.out.1 hrt
                 have HNU := Lib.hid hnu
                 have HAR := Lib.hid (dn_arc HOK.out.1 hrt hA hbv)
                 have HRW := Lib.hid (fun (j : Nat) (dz : List Int) (hd : (A.take j).foldl rx (rowD P L n s k) = dz) => dn_row HOK.out.1 h20 hsn hkt hrk hA j hd)
                 have HFU := Lib.hid (fun (j : Nat) (hj : A.length ≤ j) => dn_full (P := P) (L := L) (n := n) (s := s) hrk hA hj)
                 have hdlt : db < wo8.heap.size := World.block_lt_of_cell? _ _ (own_at HROW.out v hvn)
                 clear hat hup hdn hbv hnu hA hr9 hrk
                 go_wp2_with fail
                 go_wp2_with fail
                 refine (HUP.out).mono ?_
                 rintro e wq3 ⟨ua, uc, rfl, hur, huf, hmm⟩
                 have HMU := Lib.hid hmm
                 replace HS := Lib.hid (HS.out.step hmm)
                 clear hmm
                 have HUR := Lib.hid hur
                 have hrw2 := Own.keep HROW.out HMU.out (fun _ _ e => e)
                 have HROW7 := Lib.hid hrw2
                 have HNE : Hid (∀ i, (Value.slice ua nu uc).ownBlock = some i → i ≠ db) := Lib.hid (fun i hi e => by have := huf i hi; omega)
                 have HM7 := Lib.hid ((HS.out.now).1)
                 clear hur huf hrw2 HUP HMU hdlt qa hixr z0 HROW
                 go_wp2_with fail
                 replace HS := HB4
                 replace HS := Lib.hid ((Ev.mod wo4).and HS.out)
                 go_loopw [26] (fun i wr => ∃ j : Nat, j ≤ nu ∧ i = .int .i64 (j : Int) ∧ World.ownsRow wr 0 3 1 (.slice (some ⟨db, 0, none⟩) n n) n (((A.take j).foldl rx (rowD P L n s k)).map (Value.int .i64)) ∧ Rd wr 4 (.slice ua nu uc) nu (A.flatMap c4) ∧ Mod (fun _ => False) wo4 wr) (fun i _ => nu - (intOf i).toNat)
                 case atStart => exact ⟨0, by omega, rfl, (by rw [List.take_zero, List.foldl_nil]; exact HROW7.out), HUR.out, HM7.out⟩
                 case round =>
                  obtain ⟨j, hj, rfl, hrow, hur, hmr⟩ := hrel
                  obtain ⟨wo7, hwo⟩ : ∃ x : World, x = wr := ⟨_, rfl⟩
                  subst hwo
                  replace HS := Lib.hid (HS.out.step hmr)
                  clear hmr
                  obtain ⟨dz, hdz⟩ : ∃ y, (A.take j).foldl rx (rowD P L n s k) = y := ⟨_, rfl⟩
                  rw [hdz] at hrow
                  have HDZ := Lib.hid hdz
                  obtain ⟨hdl, hdb⟩ := HRW.out j dz hdz
                  have HROW := Lib.hid hrow
                  have HUR2 := Lib.hid hur
                  clear hrow hdz HROW7 HUR HM7
                  by_cases hlt : j < nu
                  case neg =>
                   have z0 : decide ((j : Int) < (nu : Int)) = false := by simp; omega
                   have hfu := HFU.out j (by have := HNU.out; omega)
                   rw [HDZ.out] at hfu
                   have hrow := HROW.out
                   rw [hfu] at hrow
                   have HROW9 := Lib.hid hrow
                   clear hrow hfu hur hdb
                   go_wp2_with fail
                   go_roundw
                   case rel => exact ⟨k + 1, hkt, by rw [show ((n : Int) - 1 - ((k + 1 : Nat) : Int)) = (r : Int) - 1 by have := HR9.out; omega], HROW9.out, (HS.out.now).1⟩
                   case measure => simp [intOf]
                  case pos =>
                   have z0 : decide ((j : Int) < (nu : Int)) = true := by simp; omega
                   have hjl : j < A.length := by rw [HNU.out]; exact hlt
                   have hmem := List.getElem_mem hjl
                   have htf := take_fold hjl (rowD P L n s k)
                   rw [HDZ.out] at htf
                   obtain ⟨y, hy⟩ : ∃ y, A[j] = y := ⟨_, rfl⟩
                   rw [hy] at hmem htf
                   obtain ⟨hya, hyb⟩ := HAR.out y hmem
                   unfold mayA at hyb
                   obtain ⟨yf, hyf⟩ : ∃ f : Nat, y.f = (f : Int) := Int.eq_ofNat_of_zero_le (by omega)
                   have hyt := hya
                   have hfn : yf < n := by omega
                   obtain ⟨yw, hyw⟩ : ∃ x, y.w = x := ⟨_, rfl⟩
                   have hwb : 1 ≤ yw ∧ yw ≤ 1099511627776 := by omega
                   obtain ⟨xs, hxs⟩ : ∃ x, dAt dz yf = x := ⟨_, rfl⟩
                   obtain ⟨xd, hxd⟩ : ∃ x, dAt dz v = x := ⟨_, rfl⟩
                   have hbs := hdb yf
                   have hbd := hdb v
                   rw [hxs] at hbs
                   rw [hxd] at hbd
                   have HYES := Lib.hid (fun h => (htf.trans (rx_yes (xs := xs) (w := yw) (xd := xd) hyf hyt hyw hxs hxd h)))
                   have HNOT := Lib.hid (fun h => (htf.trans (rx_not (xs := xs) (w := yw) (xd := xd) hyf hyt hyw hxs hxd h)))
                   obtain ⟨eb, eo, hpe, e0, e1, e2, e3⟩ := rd4 hur j hjl
                   have hixu := fun wx => run_indexS (P := Tryz.prog) wx 34 50 iA 4 Tryz.underlying34 hiA hsA ua nu uc j hlt (hur.some_ (by omega))
                   rw [hpe] at hixu
                   rw [hy] at e0 e1 e2 e3
                   rw [hyf] at e0
                   rw [hyt] at e1
                   rw [hyw] at e2
                   have qs := own_at HROW.out yf (by omega)
                   have qd := own_at HROW.out v (by omega)
                   rw [hxs] at qs
                   rw [hxd] at qd
                   have hixs := fun wx => own_ix iI hiI hsI db n yf (by omega) wx
                   have hixd := fun wx => own_ix iI hiI hsI db n v (by omega) wx
                   have hsum : IntKind.i64.wrap (xs + yw) = xs + yw := IntWalk.i64_in _ (by omega)
                   have y8 : decide ((yf : Int) < 0) = false := by simp
                   have y9 : decide ((n : Int) ≤ (yf : Int)) = false := by simp; omega
                   have hdv : v < n ∧ db < db + 1 := ⟨by omega, by omega⟩
                   clear hmem htf hy hya hyb hyt hyf hyw hxs hxd hpe hur hdb e3 e1
                   go_upto_region 58 with fail
                   clear z0 e0  y8 y9
                   by_cases hc0 : xs < 0
                   ·
                    as_aux_lemma =>
                     have z1 : decide (0 ≤ xs) = false := decide_eq_false (by omega)
                     have hnot := HNOT.out (by omega)
                     have HNX := Lib.hid hnot
                     clear hnot
                     go_quiet (fail)
                     go_wp2_with fail
                     go_roundw
                     case rel => exact ⟨j + 1, hlt, by go_num, by rw [HNX.out]; exact Own.keep HROW.out (Mod.drewN (fun _ => False) _ _) (fun _ _ e => e), HUR2.out.keep (Mod.drewN (fun _ => False) _ _) (fun _ _ e => e), ((HS.out.now).1).of2 (Mod.drewN _ _ _)⟩
                     case measure => simp [intOf]; omega
                   ·
                    skip
                    by_cases hc1 : ¬ (xd < 0 ∨ xs + yw < xd)
                    ·
                     as_aux_lemma =>
                      have z1 : decide (0 ≤ xs) = true := decide_eq_true (by omega)
                      have z2 : decide (xd < 0) = false := decide_eq_false (by omega)
                      have z3 : decide (xs + yw < xd) = false := decide_eq_false (by omega)
                      have hnot := HNOT.out (by omega)
                      have HNX := Lib.hid hnot
                      clear hnot
                      go_quiet (fail)
                      go_wp2_with fail
                      go_roundw
                      case rel => exact ⟨j + 1, hlt, by go_num, by rw [HNX.out]; exact Own.keep HROW.out (Mod.drewN (fun _ => False) _ _) (fun _ _ e => e), HUR2.out.keep (Mod.drewN (fun _ => False) _ _) (fun _ _ e => e), ((HS.out.now).1).of2 (Mod.drewN _ _ _)⟩
                      case measure => simp [intOf]; omega
                    ·
                     skip
                     by_cases hc2 : xd < 0
                     ·
                      as_aux_lemma =>
                       have z1 : decide (0 ≤ xs) = true := decide_eq_true (by omega)
                       have z2 : decide (xd < 0) = true := decide_eq_true (by omega)
                       have hyes := HYES.out (by omega)
                       have HYX := Lib.hid hyes
                       clear hyes
                       go_quiet (fail)
                       go_upto_region 59 with fail
                       obtain ⟨w4, hw4⟩ : ∃ y, World.drewN wo7 nq = y := ⟨_, rfl⟩
                       have hm4 : Mod (fun _ => False) wo7 w4 := by rw [← hw4]; exact Mod.drewN _ _ _
                       (try rw [hw4])
                       have HM4 := Lib.hid (((HS.out.now).1).of2 hm4)
                       have hrow4 := Own.keep HROW.out hm4 (fun _ _ e => e)
                       have HROW4 := Lib.hid hrow4
                       have HUR4 := Lib.hid (HUR2.out.keep hm4 (fun _ _ e => e))
                       replace qs := hm4.cell qs (fun e => e)
                       replace qd := hm4.cell qd (fun e => e)
                       replace e2 := hm4.cell e2 (fun e => e)
                       have HQD := Lib.hid qd
                       have HG4 : Hid (∀ W, Mod (fun _ => False) w4 W → W.cell? ⟨db, v, none⟩ = some (.int .i64 xd) ∧ W.frozen? ⟨db, v, none⟩ = false) := Lib.hid (fun W hm => ⟨hm.cell HQD.out (fun e => e), (Room.ofOwn (Own.keep HROW4.out hm (fun _ _ e => e)) v (by omega)).free⟩)
                       have HSTO : Hid (∀ W W2, Mod (fun _ => False) w4 W → W2 = W.setCell ⟨db, v, none⟩ (.int .i64 (xs + yw)) → World.ownsRow W2 0 3 1 (.slice (some ⟨db, 0, none⟩) n n) n (((A.take (j + 1)).foldl rx (rowD P L n s k)).map (Value.int .i64)) ∧ Rd W2 4 (.slice ua nu uc) nu (A.flatMap c4) ∧ Mod (fun _ => False) wo4 W2) := Lib.hid (fun W W2 hm hW2 => by
                        subst hW2
                        have hst := ((Own.keep HROW4.out hm (fun _ _ e => e)).stored v (.int .i64 (xs + yw))).1
                        rw [← List.map_set] at hst
                        have hms : Mod (fun i => i = db) W (W.setCell ⟨db, v, none⟩ (.int .i64 (xs + yw))) := Mod.setCell W _ _ rfl
                        exact ⟨by rw [HYX.out]; exact hst, (HUR4.out.keep hm (fun _ _ e => e)).keep hms (fun i hi e => HNE.out i hi e), (HM4.out.of2 hm).trans hms (fun _ _ e => e) (fun i hi e => by have h1 := HBHR3.out; have h2 : i = db := e; omega)⟩)
                       clear hw4 hm4 hrow4
                       go_still_tail 13, (by kernel_rfl)
                       change wpList _ _ _ _ _ (World.drew w4)
                       obtain ⟨k1, k2⟩ := HG4.out _ (Mod.drew (fun _ => False) w4)
                       have hm5 : Mod (fun _ => False) w4 (World.drew w4) := Mod.drew _ _
                       have HM5 := Lib.hid hm5
                       clear hm5
                       go_wp2_with fail
                       go_roundw
                       case rel => exact ⟨j + 1, hlt, by go_num, (HSTO.out _ _ HM5.out rfl).1, (HSTO.out _ _ HM5.out rfl).2.1, (HSTO.out _ _ HM5.out rfl).2.2⟩
                       case measure => simp [intOf]; omega
                     ·
                      skip
                      as_aux_lemma =>
                       have z1 : decide (0 ≤ xs) = true := decide_eq_true (by omega)
                       have z2 : decide (xd < 0) = false := decide_eq_false (by omega)
                       have z3 : decide (xs + yw < xd) = true := decide_eq_true (by omega)
                       have hyes := HYES.out (by omega)
                       have HYX := Lib.hid hyes
                       clear hyes
                       go_quiet (fail)
                       go_upto_region 59 with fail
                       obtain ⟨w4, hw4⟩ : ∃ y, World.drewN wo7 nq = y := ⟨_, rfl⟩
                       have hm4 : Mod (fun _ => False) wo7 w4 := by rw [← hw4]; exact Mod.drewN _ _ _
                       (try rw [hw4])
                       have HM4 := Lib.hid (((HS.out.now).1).of2 hm4)
                       have hrow4 := Own.keep HROW.out hm4 (fun _ _ e => e)
                       have HROW4 := Lib.hid hrow4
                       have HUR4 := Lib.hid (HUR2.out.keep hm4 (fun _ _ e => e))
                       replace qs := hm4.cell qs (fun e => e)
                       replace qd := hm4.cell qd (fun e => e)
                       replace e2 := hm4.cell e2 (fun e => e)
                       have HQD := Lib.hid qd
                       have HG4 : Hid (∀ W, Mod (fun _ => False) w4 W → W.cell? ⟨db, v, none⟩ = some (.int .i64 xd) ∧ W.frozen? ⟨db, v, none⟩ = false) := Lib.hid (fun W hm => ⟨hm.cell HQD.out (fun e => e), (Room.ofOwn (Own.keep HROW4.out hm (fun _ _ e => e)) v (by omega)).free⟩)
                       have HSTO : Hid (∀ W W2, Mod (fun _ => False) w4 W → W2 = W.setCell ⟨db, v, none⟩ (.int .i64 (xs + yw)) → World.ownsRow W2 0 3 1 (.slice (some ⟨db, 0, none⟩) n n) n (((A.take (j + 1)).foldl rx (rowD P L n s k)).map (Value.int .i64)) ∧ Rd W2 4 (.slice ua nu uc) nu (A.flatMap c4) ∧ Mod (fun _ => False) wo4 W2) := Lib.hid (fun W W2 hm hW2 => by
                        subst hW2
                        have hst := ((Own.keep HROW4.out hm (fun _ _ e => e)).stored v (.int .i64 (xs + yw))).1
                        rw [← List.map_set] at hst
                        have hms : Mod (fun i => i = db) W (W.setCell ⟨db, v, none⟩ (.int .i64 (xs + yw))) := Mod.setCell W _ _ rfl
                        exact ⟨by rw [HYX.out]; exact hst, (HUR4.out.keep hm (fun _ _ e => e)).keep hms (fun i hi e => HNE.out i hi e), (HM4.out.of2 hm).trans hms (fun _ _ e => e) (fun i hi e => by have h1 := HBHR3.out; have h2 : i = db := e; omega)⟩)
                       clear hw4 hm4 hrow4
                       go_still_tail 13, (by kernel_rfl)
                       change wpList _ _ _ _ _ (World.drew w4)
                       obtain ⟨k1, k2⟩ := HG4.out _ (Mod.drew (fun _ => False) w4)
                       have hm5 : Mod (fun _ => False) w4 (World.drew w4) := Mod.drew _ _
                       have HM5 := Lib.hid hm5
                       clear hm5
                       go_wp2_with fail
                       go_roundw
                       case rel => exact ⟨j + 1, hlt, by go_num, (HSTO.out _ _ HM5.out rfl).1, (HSTO.out _ _ HM5.out rfl).2.1, (HSTO.out _ _ HM5.out rfl).2.2⟩
                       case measure => simp [intOf]; omega
               case neg =>
                have hneg : (n : Int) - 1 - (k : Int) = -1 := by omega
                rw [hneg]
                have z0 : decide ((0 : Int) ≤ -1) = false := rfl
                have hkn : k = n := by omega
                obtain ⟨d, hd, hdd⟩ := HFA.out s hsn
                have hrow := HROW.out
                rw [hkn, hdd] at hrow
                have HROW8 := Lib.hid hrow
                have HD := Lib.hid hd
                clear hrow HROW hd hdd hkn hneg
                have HAL := Lib.hid (rn_all ((HS.out.now).2.2.2.2.2.2.2.2.2.1) HOK.out.1 HLW.out (by omega) (by have := HLL.out; omega) (s : Int) d HD.out)
                unfold NewR at HAL
                go_wp2_with fail
                go_wp2_with fail
                refine (HAL.out).mono ?_
                rintro e wq4 ⟨ma, mc, rfl, hoa, hmm⟩
                have HMA := Lib.hid hmm
                replace HS := Lib.hid (HS.out.step hmm)
                clear hmm
                have HOA := Lib.hid hoa
                clear hoa HAL
                go_wp2_with fail
                refine (ints_any _ _ n _ d (HD.out.len) (Rd.ofOwn (Own.keep HROW8.out HMA.out (fun _ _ e => e))) _ n _ d (HD.out.len) (Rd.ofOwn HOA.out) (by omega)).mono ?_
                rintro e w' ⟨rfl, kk, rfl⟩
                have HMK := Lib.hid (Mod.drewN (fun _ => False) wq4 kk)
                rw [decide_eq_true (rfl : d = d)]
                go_wp2_with fail
                go_roundw
                case rel => exact ⟨s + 1, hsn, by go_num, ((HS.out.now).2.1).of2 HMK.out⟩
                case measure => simp [intOf]; omega
        case neg =>
         have z0 : decide ((s : Int) < (n : Int)) = false := by simp; omega
         go_wp2_with fail
         go_wp2_with fail
         refine (awake16_any _).mono ?_
         rintro e wq5 ⟨rfl, hmn⟩
         replace HS := Lib.hid (HS.out.step hmn)
         clear hmn
         go_wp2_with fail
         go_ret
         exact ⟨rfl, HM1.out.of2 (HS.out.now).2.2.2.2.2.2.2.2.2.2⟩
theorem lfar_law (w : World) (nv : Int) (_ : (Lit.int .i64 nv).wf = true) (a : Option Addr) (ln c : Nat) (T : List T3) (ok : (encSlice enc3).ok w (.slice a ln c, T)) :
    Calls Tryz.prog 4 #[.int .i64 nv, .slice a ln c] w fun e w' => e = .returned (.bool true) ∧ Below w.heap.size w w' := by
  obtain ⟨hT, hr⟩ := ok_t3 ok
  suffices h : Calls Tryz.prog 4 #[.int .i64 nv, .slice a ln c] w fun e w' => e = .returned (.bool true) ∧ Mod (fun _ => False) w w' from
    h.mono fun e w' h => ⟨h.1, h.2.below (Nat.le_refl _) (fun _ e => e.elim)⟩
  by_cases hno : ¬ (1 ≤ nv ∧ nv ≤ 20 ∧ ln ≤ 80)
  case pos =>
    clear hr hT ok
    have hend : ∀ (b0 b1 b2 : Bool), decide (nv < 1) = b0 → decide (20 < nv) = b1 → decide (80 < (ln : Int)) = b2 → (b0 || b1 || b2) = true →
        Calls Tryz.prog 4 #[.int .i64 nv, .slice a ln c] w fun e w' => e = .returned (.bool true) ∧ Mod (fun _ => False) w w' := by
      intro b0 b1 b2 hc0 hc1 hc2 hbb
      clear hno
      cases b0
      · skip
        cases b1
        · skip
          cases b2
          · cases hbb
          · clear hbb 
            go_enter Tryz.func4, Tryz.ntmps4
            go_wp2_with fail
            refine (awake16_any _).mono ?_
            rintro e w9 ⟨rfl, hm9⟩
            go_wp2_with fail
            go_ret
            exact ⟨rfl, hm9⟩
        · clear hbb hc2
          go_enter Tryz.func4, Tryz.ntmps4
          go_wp2_with fail
          refine (awake16_any _).mono ?_
          rintro e w9 ⟨rfl, hm9⟩
          go_wp2_with fail
          go_ret
          exact ⟨rfl, hm9⟩
      · clear hbb hc1 hc2
        go_enter Tryz.func4, Tryz.ntmps4
        go_wp2_with fail
        refine (awake16_any _).mono ?_
        rintro e w9 ⟨rfl, hm9⟩
        go_wp2_with fail
        go_ret
        exact ⟨rfl, hm9⟩
    refine hend _ _ _ rfl rfl rfl ?_
    simp only [Bool.or_eq_true, decide_eq_true_eq]
    omega
  case neg =>
    have hyes := Decidable.not_not.1 hno
    obtain ⟨n, rfl⟩ := Int.eq_ofNat_of_zero_le (show 0 ≤ nv by omega)
    exact lfar_all w n (by omega) (by omega) a ln c T hT hr (by omega)

end Go.Proofs.YtjjedebjbgpimaaGreat
