/- ShutsActs walked. -/
import Derived.Test.YthlpednakhjmhaaAwake10
import Derived.Test.YthlpednakhjmhaaActsP10
import Derived.Test.YthlpednakhjmhaaRegion2
import Derived.Deep.DeepCutAuto
import Derived.Deep.CutBlock
namespace Go.Proofs.Ythlpednakhjmhaa
open Go.RowKit Mile
set_option maxRecDepth 100000
def ac_lapD : List (List Nat) := [[], [], [1], [0, 2], [], [], [5], [4, 6], [3, 7], [8]]

/-- What each operation of the statement leaves. -/
def ac_r30_0_F (n : Nat) (p : Nat) (q : Nat) (ba : Nat) (g1 : Nat) (g2 : Nat) (un : Int) (AL : List (Int × Int)) : List (Value → World → Prop) :=
  [IsV (.slice (some ⟨g1, 0, none⟩) n n),
   IsV (.int .i64 (n : Int)),
   IsV (.slice (some ⟨g2, 0, none⟩) n n),
   IsV (.int .i64 (n : Int)),
   IsV (.bool false),
   IsV (.bool false),
   IsV (.pointer (some ⟨p, 0, none⟩)),
   (ShRow AL),
   IsV (.pointer (some ⟨q, 0, none⟩)),
   (ShRow AL),
   IsV (.bool true),
   IsV (.bool false),
   IsV (.bool false),
   IsV (.bool false),
   IsV (.pointer (some ⟨p, 0, none⟩)),
   IsV (.pointer (some ⟨ba, 1, none⟩)),
   IsV (.int .i64 un),
   IsV (.bool false),
   IsV (.pointer (some ⟨ba, 1, none⟩)),
   IsV (.int .i64 un),
   IsV (.bool false),
   IsV (.bool false),
   IsV (undef),
   IsV (undef),
   IsV (undef),
   IsV (undef),
   IsV (undef),
   IsV (.bool false),
   IsV (.bool false),
   IsV (undef),
   IsV (undef),
   IsV (undef),
   IsV (undef),
   IsV (undef),
   IsV (.bool false),
   IsV (.bool false),
   IsV (.bool false)]
def ac_r30_0_D : List (List Nat) := [[], [0], [], [2], [1, 3], [4], [5], [5, 6], [5], [5, 8], [5, 7, 9], [5, 10], [5, 11], [12], [13], [13], [13, 15], [13, 14, 16], [13], [13, 18], [13, 19], [13, 20], [21], [21], [21], [21], [21], [13, 21, 26], [13, 27], [28], [28], [28], [28], [28], [13, 28, 33], [13, 17, 34], [13, 35]]

/-- What each operation of the statement leaves. -/
def ac_r30_1_F (n : Nat) (p : Nat) (q : Nat) (ba : Nat) (g1 : Nat) (g2 : Nat) (un : Int) (AL : List (Int × Int)) : List (Value → World → Prop) :=
  [IsV (.slice (some ⟨g1, 0, none⟩) n n),
   IsV (.int .i64 (n : Int)),
   IsV (.slice (some ⟨g2, 0, none⟩) n n),
   IsV (.int .i64 (n : Int)),
   IsV (.bool false),
   IsV (.bool false),
   IsV (.pointer (some ⟨p, 0, none⟩)),
   (ShRow AL),
   IsV (.pointer (some ⟨q, 0, none⟩)),
   (ShRow AL),
   IsV (.bool true),
   IsV (.bool false),
   IsV (.bool false),
   IsV (.bool false),
   IsV (.pointer (some ⟨p, 0, none⟩)),
   IsV (.pointer (some ⟨ba, 1, none⟩)),
   IsV (.int .i64 un),
   IsV (.bool false),
   IsV (.pointer (some ⟨ba, 1, none⟩)),
   IsV (.int .i64 un),
   IsV (.bool true),
   IsV (.bool true),
   IsV (.pointer (some ⟨ba, 1, none⟩)),
   IsV (.int .i64 un),
   IsV (.slice (some ⟨g2, 0, none⟩) n n),
   IsV (.int .i64 (n : Int)),
   IsV (.bool false),
   IsV (.bool false),
   IsV (.bool false),
   IsV (undef),
   IsV (undef),
   IsV (undef),
   IsV (undef),
   IsV (undef),
   IsV (.bool false),
   IsV (.bool false),
   IsV (.bool false)]
def ac_r30_1_D : List (List Nat) := [[], [0], [], [2], [1, 3], [4], [5], [5, 6], [5], [5, 8], [5, 7, 9], [5, 10], [5, 11], [12], [13], [13], [13, 15], [13, 14, 16], [13], [13, 18], [13, 19], [13, 20], [21], [21, 22], [21], [21, 24], [21, 23, 25], [13, 21, 26], [13, 27], [28], [28], [28], [28], [28], [13, 28, 33], [13, 17, 34], [13, 35]]

/-- What each operation of the statement leaves. -/
def ac_r30_2_F (n : Nat) (p : Nat) (q : Nat) (ba : Nat) (g1 : Nat) (g2 : Nat) (ku : Nat) (un : Int) (bv : Bool) (AL : List (Int × Int)) : List (Value → World → Prop) :=
  [IsV (.slice (some ⟨g1, 0, none⟩) n n),
   IsV (.int .i64 (n : Int)),
   IsV (.slice (some ⟨g2, 0, none⟩) n n),
   IsV (.int .i64 (n : Int)),
   IsV (.bool false),
   IsV (.bool false),
   IsV (.pointer (some ⟨p, 0, none⟩)),
   (ShRow AL),
   IsV (.pointer (some ⟨q, 0, none⟩)),
   (ShRow AL),
   IsV (.bool true),
   IsV (.bool false),
   IsV (.bool false),
   IsV (.bool false),
   IsV (.pointer (some ⟨p, 0, none⟩)),
   IsV (.pointer (some ⟨ba, 1, none⟩)),
   IsV (.int .i64 un),
   IsV (.bool bv),
   IsV (.pointer (some ⟨ba, 1, none⟩)),
   IsV (.int .i64 un),
   IsV (.bool true),
   IsV (.bool true),
   IsV (.pointer (some ⟨ba, 1, none⟩)),
   IsV (.int .i64 un),
   IsV (.slice (some ⟨g2, 0, none⟩) n n),
   IsV (.int .i64 (n : Int)),
   IsV (.bool true),
   IsV (.bool true),
   IsV (.bool true),
   IsV (.slice (some ⟨g2, 0, none⟩) n n),
   IsV (.pointer (some ⟨ba, 1, none⟩)),
   IsV (.int .i64 un),
   IsV (.pointer (some ⟨g2, ku, none⟩)),
   IsV (.bool bv),
   IsV (.bool bv),
   IsV (.bool false),
   IsV (.bool false)]
def ac_r30_2_D : List (List Nat) := [[], [0], [], [2], [1, 3], [4], [5], [5, 6], [5], [5, 8], [5, 7, 9], [5, 10], [5, 11], [12], [13], [13], [13, 15], [13, 14, 16], [13], [13, 18], [13, 19], [13, 20], [21], [21, 22], [21], [21, 24], [21, 23, 25], [13, 21, 26], [13, 27], [28], [28], [28, 30], [28, 29, 31], [28, 32], [13, 28, 33], [13, 17, 34], [13, 35]]

/-- What each operation of the statement leaves. -/
def ac_r35_3_F (n : Nat) (p : Nat) (g1 : Nat) (g2 : Nat) (k : Nat) (bv : Bool) : List (Value → World → Prop) :=
  [IsV (.slice (some ⟨g1, 0, none⟩) n n),
   IsV (.int .i64 (k : Int)),
   IsV (.pointer (some ⟨g1, k, none⟩)),
   IsV (.bool bv),
   IsV (.slice (some ⟨g2, 0, none⟩) n n),
   IsV (.int .i64 (k : Int)),
   IsV (.pointer (some ⟨g2, k, none⟩)),
   IsV (.bool bv),
   IsV (.bool false),
   IsV (.bool false),
   IsV (.pointer (some ⟨p, 0, none⟩)),
   IsV (.int .i64 (k : Int)),
   IsV (.bool bv),
   IsV (.slice (some ⟨g2, 0, none⟩) n n),
   IsV (.int .i64 (k : Int)),
   IsV (.pointer (some ⟨g2, k, none⟩)),
   IsV (.bool bv),
   IsV (.bool false),
   IsV (.bool false)]
def ac_r35_3_D : List (List Nat) := [[], [], [0, 1], [2], [], [], [4, 5], [6], [3, 7], [8], [9], [9], [9, 10, 11], [9], [9], [9, 13, 14], [9, 15], [9, 12, 16], [9, 17]]

set_option maxHeartbeats 64000000 in
theorem acts10_all (w : World) (nv : Int) (a0 : Option Addr) (m c0 : Nat) (l : List ActD) (hn : l.length = m) (hr : Rd w 3 (.slice a0 m c0) m (l.flatMap encAct.img)) (hok : ∀ x ∈ l, ActOk w x) :
    Calls Try.prog 3 #[.int .i64 nv, .slice a0 m c0] w fun e w' => e = .returned (.bool true) ∧ Mod (fun _ => False) w w' := by
  obtain ⟨iA, hiA, hzA, hsA, hbA⟩ := info_parts infoAct
  obtain ⟨iB, hiB, hzB, hsB, hbB⟩ := info_parts infoBl
  have HN := Lib.hid hn
  have HOK := Lib.hid hok
  have HRL := Lib.hid hr
  clear hn hok hr
  by_cases hm60 : m ≤ 60
  case neg =>
    have z0 : decide (60 < (m : Int)) = true := by simp; omega
    have z1 : decide (60 < m) = true := by simp; omega
    have HS : Hid (Ev (Mod (fun _ => False) w) w) := Lib.hid (Ev.mod w)
    go_enter Try.func3, Try.ntmps3
    go_wp2_with fail
    refine (awake10_any _).mono ?_
    rintro e wq1 ⟨rfl, hm⟩
    replace HS := Lib.hid (HS.out.step hm)
    clear hm
    go_wp2_with fail
    go_ret
    exact ⟨rfl, HS.out.now⟩
  case pos =>
    have z0 : decide (60 < (m : Int)) = false := by simp; omega
    have z1 : decide (60 < m) = false := by simp; omega
    by_cases hn0 : 0 ≤ nv ∧ nv ≤ 512
    case neg =>
      have HS : Hid (Ev (Mod (fun _ => False) w) w) := Lib.hid (Ev.mod w)
      go_enter Try.func3, Try.ntmps3
      go_wp2_with fail
      refine (snew_no nv (by omega) w).mono ?_
      rintro e w' ⟨rfl, rfl⟩
      go_wp2_with fail
      refine (unew_no nv (by omega) _).mono ?_
      rintro e w' ⟨rfl, rfl⟩
      go_wp2_with fail
      refine (awake10_any _).mono ?_
      rintro e wq2 ⟨rfl, hm⟩
      replace HS := Lib.hid (HS.out.step hm)
      clear hm
      go_wp2_with fail
      go_ret
      exact ⟨rfl, HS.out.now⟩
    case pos =>
      obtain ⟨n, rfl⟩ := Int.eq_ofNat_of_zero_le hn0.1
      have hn512 : n ≤ 512 := by omega
      go_enter Try.func3, Try.ntmps3
      go_wp2_with fail
      refine (snew_any n hn512 w).mono ?_
      rintro e wq0 ⟨p, rfl, hpb, hso, hm0⟩
      go_wp2_with fail
      refine (unew_any n hn512 wq0).mono ?_
      rintro e wa ⟨q, g, rfl, hqb, hgb, huo, hm1⟩
      have hlp := hso.blk.lt
      have hqp : ¬ q = p := by omega
      have hgp : ¬ g = p := by omega
      have hpq : ¬ p = q := by omega
      have hpg : ¬ p = g := by omega
      have hgq : ¬ g = q := huo.ne
      have hqg : ¬ q = g := fun e => huo.ne e.symm
      have HPB := Lib.hid hpb
      have HGB : Hid (w.heap.size ≤ g) := Lib.hid (by have := hm0.size; omega)
      have HM0 := Lib.hid (hm0.of2 hm1)
      have hso := hso.keep hm1 (fun e => e)
      obtain ⟨us0, hus0⟩ : ∃ us, List.replicate 512 (0 : Int) = us := ⟨_, rfl⟩
      have htk : List.replicate n (0 : Int) = us0.take n := by rw [← hus0, List.take_replicate, Nat.min_eq_left hn512]
      rw [hus0] at hso
      rw [htk] at huo
      have HSO := Lib.hid hso
      have HUO := Lib.hid huo
      clear hso huo hm0 hm1 hpb hqb hgb hus0 htk hlp
      go_wp2_with fail
      clear z0 z1
      have HS : Hid (EvF (fun k => k = p ∨ k = g) (Mod (fun k => k = p ∨ k = g) wa) wa) := Lib.hid (EvF.mod _ _)
      replace HS := Lib.hid (((show EvF (fun k => k = p ∨ k = g) (fun W => Mod (fun _ => False) w W) wa from fun W mW => HM0.out.old mW (fun i hi => by have h1 := HPB.out; have h2 := HGB.out; rcases hi with hi | hi <;> omega))).and HS.out)
      go_loopw [7] (fun i wr => ∃ (j : Nat) (us : List Int), j ≤ m ∧ i = .int .i64 j ∧ SO wr p n us ∧ UO wr q g n (us.take n) ∧ Mod (fun k => k = p ∨ k = g) wa wr) (fun i _ => m - (intOf i).toNat)
      case atStart => exact ⟨0, us0, by omega, rfl, HSO.out, HUO.out, Mod.refl _ _⟩
      case round =>
        obtain ⟨j, us, hj, rfl, hso, huo, hmr⟩ := hrel
        obtain ⟨wo, hwo⟩ : ∃ x : World, x = wr := ⟨_, rfl⟩
        subst hwo
        clear HSO HUO
        have HSO := Lib.hid hso
        have HUO := Lib.hid huo
        clear hso huo
        replace HS := Lib.hid (HS.out.step hmr)
        clear hmr
        by_cases hlt : j < m
        case neg =>
          obtain rfl : j = m := by omega
          have z0 : decide ((j : Int) < (j : Int)) = false := by simp
          go_wp2_with fail
          refine (awake10_any _).mono ?_
          rintro e wq3 ⟨rfl, hmm⟩
          have HSO1 := Lib.hid (HSO.out.keep hmm (fun e => e))
          clear HSO
          have HSO := HSO1
          clear HSO1
          have HUO1 := Lib.hid (HUO.out.keep hmm (fun e => e) (fun e => e))
          clear HUO
          have HUO := HUO1
          clear HUO1
          replace HS := Lib.hid (HS.out.step (Mod.upF hmm))
          clear hmm
          go_wp2_with fail
          go_ret
          exact ⟨rfl, (HS.out.now).1⟩
        case pos =>
          have hjl : j < l.length := by rw [HN.out]; exact hlt
          have z0 : decide ((j : Int) < (m : Int)) = true := by simp; omega
          have hrl := HRL.out.keepA ((HS.out.now).1) (fun _ _ e => e.elim)
          obtain ⟨eb, eo, hpl, e0, e1, e2⟩ := rd3a hrl j HN.out hjl
          obtain ⟨al, cl, hlv, hlr⟩ := HOK.out (l[j]) (List.getElem_mem hjl)
          rw [hlv] at e2
          obtain ⟨kd, HKD0⟩ : ∃ qz, (l[j]).1 = qz := ⟨_, rfl⟩
          have HKD := Lib.hid HKD0
          clear HKD0
          obtain ⟨un, HUN0⟩ : ∃ qz, (l[j]).2.1 = qz := ⟨_, rfl⟩
          have HUN := Lib.hid HUN0
          clear HUN0
          rw [HKD.out] at e0
          rw [HUN.out] at e1
          obtain ⟨xs, hxs⟩ : ∃ x, (l[j]).2.2.1.2 = x := ⟨_, rfl⟩
          rw [hxs] at e2 hlr
          obtain ⟨ml, hml⟩ : ∃ k, xs.length = k := ⟨_, rfl⟩
          rw [hml] at e2 hlr
          have HXL := Lib.hid hml
          have HRX := Lib.hid hlr
          clear hlv hxs hml hlr
          have hix := fun wx => run_indexS (P := Try.prog) wx 22 30 iA 3 Try.underlying22 hiA hsA a0 m c0 j hlt (hrl.some_ (by omega))
          rw [hpl] at hix
          clear hpl hrl
          go_upto_region 13 with fail
          clear hix e0 e1 e2 z0
          have lp := HSO.out.blk.lt
          have lg := HUO.out.gl
          obtain ⟨ba, hba⟩ : ∃ b, wo.heap.size = b := ⟨_, rfl⟩
          obtain ⟨wb, hwb⟩ : ∃ W, World.alloc wo (.cells #[.int .i64 kd, .int .i64 un, .slice al ml cl] 30) = W := ⟨_, rfl⟩
          have hB : Blk wb ba 30 [.int .i64 kd, .int .i64 un, .slice al ml cl] := by rw [← hwb, ← hba]; exact Blk.new wo 30 [.int .i64 kd, .int .i64 un, .slice al ml cl]
          have hmb : Mod (fun _ => False) wo wb := by rw [← hwb]; exact Mod.alloc _ _ _
          try rw [hwb]
          try rw [hba]
          rw [hba] at lp lg
          have hbp : ¬ ba = p := by omega
          have hbg : ¬ ba = g := by omega
          have HSO1 := Lib.hid (HSO.out.keep hmb (fun e => e))
          clear HSO
          have HSO := HSO1
          clear HSO1
          have HUO1 := Lib.hid (HUO.out.keep hmb (fun e => e) (fun e => e))
          clear HUO
          have HUO := HUO1
          clear HUO1
          replace HS := Lib.hid (HS.out.step (Mod.upF hmb))
          replace HS := Lib.hid ((EvF.blk hB (fun e => by rcases e with e | e <;> omega)).and HS.out)
          clear hB hmb hwb hba lp lg
          have hbba := (HS.out.now).1
          have qba_0 := hbba.cell 0 rfl
          have qba_1 := hbba.cell 1 rfl
          have qba_2 := hbba.cell 2 rfl
          have lba := hbba.lt
          clear hbba
          by_cases hm20 : ml ≤ 20
          case neg =>
            have z0 : decide (20 < (ml : Int)) = true := by simp; omega
            have z1 : decide (20 < ml) = true := by simp; omega
            clear qba_0 qba_1 qba_2 lba
            have hbba := (HS.out.now).1
            have qba_0 := hbba.cell 0 rfl
            have qba_1 := hbba.cell 1 rfl
            have qba_2 := hbba.cell 2 rfl
            have lba := hbba.lt
            clear hbba
            go_wp2_with fail
            refine (awake10_any _).mono ?_
            rintro e wq4 ⟨rfl, hmm⟩
            have HSO1 := Lib.hid (HSO.out.keep hmm (fun e => e))
            clear HSO
            have HSO := HSO1
            clear HSO1
            have HUO1 := Lib.hid (HUO.out.keep hmm (fun e => e) (fun e => e))
            clear HUO
            have HUO := HUO1
            clear HUO1
            replace HS := Lib.hid (HS.out.step (Mod.upF hmm))
            clear hmm
            go_wp2_with fail
            go_ret
            exact ⟨rfl, (HS.out.now).2.1⟩
          case pos =>
            have z0 : decide (20 < (ml : Int)) = false := by simp; omega
            have z1 : decide (20 < ml) = false := by simp; omega
            replace HS := Lib.hid ((EvF.mod (fun k => k = p ∨ k = g) wb).and HS.out)
            go_upto_block 2 with fail
            clear z0 z1
            go_cut [9, 10, 11, 12, 13, 14, 15, 16] (fun _ _ _ _ _ _ _ _ wx => AcSt p q g n wb wx)
            case first =>
              by_cases hk1 : kd = 1
              case pos =>
                have zk1 : (kd == 1) = true := by rw [hk1]; rfl
                clear hk1
                by_cases hc : ((1 ≤ un ∧ un ≤ 1099511627776) ∧ hasB n xs = true)
                case pos =>
                  have hul := HSO.out.len
                  have hts := told_same un n us xs (by omega) hc.2
                  have hpt := putU_take un n xs us hc.2
                  obtain ⟨zs, hzs⟩ : ∃ z, listK (frK un (us.take n) xs xs.length) n = z := ⟨_, rfl⟩
                  rw [hzs] at hts
                  have hzl : zs.length ≤ 512 := by rw [← hzs]; have := listK_len (frK un (us.take n) xs xs.length) n; omega
                  have lp0 := HSO.out.blk.lt
                  have lg0 := HUO.out.gl
                  go_wp2_with fail
                  refine (close_ok p n us _ HSO.out al ml cl xs ⟨HRX.out.keepA ((HS.out.now).2.2.1) (fun _ _ e => e.elim), HXL.out, fun k hk e => HRX.out.lt hk (by rw [e]; exact HPB.out)⟩ (by omega) hc.2 un hc.1.1 hc.1.2).mono ?_
                  rintro e wq5 ⟨v, rfl, hown, hsn, hmm⟩
                  have hmt := hmm
                  have HUO1 := Lib.hid (HUO.out.keep hmt hqp hgp)
                  clear HUO
                  have HUO := HUO1
                  clear HUO1
                  clear HSO
                  have HSO := Lib.hid hsn
                  replace HS := Lib.hid (HS.out.step (Mod.mono hmt (fun _ _ e => Or.inl e)))
                  clear hmm hmt hsn
                  rw [hts] at hown
                  have hoi : OwnI wb.heap.size zs _ wq5 := OwnI.of hown (by rw [← hts, srtI_len]) (Nat.le_refl _)
                  obtain ⟨xa, xc, rfl, hor⟩ := hoi
                  have hlo : ∀ k, (Value.slice xa zs.length xc).ownBlock = some k → (k = p ∨ k = g) → zs.map (Value.int .i64) = [] := fun k hk e => absurd (hor.lt k hk).1 (by rcases e with e | e <;> omega)
                  replace HS := Lib.hid ((EvF.rdA (Rd.ofOwn hor) hlo).and HS.out)
                  clear hor hlo
                  clear lp0 lg0
                  clear qba_0 qba_1 qba_2 lba
                  have hbba := (HS.out.now).2.2.1
                  have qba_0 := hbba.cell 0 rfl
                  have qba_1 := hbba.cell 1 rfl
                  have qba_2 := hbba.cell 2 rfl
                  have lba := hbba.lt
                  clear hbba
                  go_wp2_with fail
                  have lp1 := HSO.out.blk.lt
                  have lg1 := HUO.out.gl
                  refine (uclose_any q g n (us.take n) _ HUO.out al ml cl xs ⟨HRX.out.keepA ((HS.out.now).2.2.2.1) (fun _ _ e => e.elim), HXL.out, fun k hk e => HRX.out.lt hk (by rw [e]; exact HGB.out)⟩ (by omega) un).mono ?_
                  rintro e wq6 hpost
                  obtain ⟨_, v2, rfl, hown, hsn, hmm⟩ : _ ∧ _ := (show _ ∨ _ from hpost).resolve_right (fun h => h.1 hc)
                  clear hpost
                  rw [hzs] at hown
                  rw [hpt] at hsn
                  have HSO1 := Lib.hid (HSO.out.keep hmm hpg)
                  clear HSO
                  have HSO := HSO1
                  clear HSO1
                  clear HUO
                  have HUO := Lib.hid hsn
                  replace HS := Lib.hid (HS.out.step (Mod.mono hmm (fun _ _ e => Or.inr e)))
                  clear hmm hsn
                  have hoi : OwnI wq5.heap.size zs _ wq6 := OwnI.of hown rfl (Nat.le_refl _)
                  obtain ⟨ya, yc, rfl, hor⟩ := hoi
                  have hlo : ∀ k, (Value.slice ya zs.length yc).ownBlock = some k → (k = p ∨ k = g) → zs.map (Value.int .i64) = [] := fun k hk e => absurd (hor.lt k hk).1 (by rcases e with e | e <;> omega)
                  replace HS := Lib.hid ((EvF.rdA (Rd.ofOwn hor) hlo).and HS.out)
                  clear hor hlo
                  clear lp1 lg1
                  clear qba_0 qba_1 qba_2 lba
                  have hbba := (HS.out.now).2.2.2.1
                  have qba_0 := hbba.cell 0 rfl
                  have qba_1 := hbba.cell 1 rfl
                  have qba_2 := hbba.cell 2 rfl
                  have lba := hbba.lt
                  clear hbba
                  go_wp2_with fail
                  refine (ints_as _ xa zs.length xc zs rfl ((HS.out.now).2.1) ya zs.length yc zs rfl ((HS.out.now).1) (by omega) true (by simp)).mono ?_
                  rintro e wq7 ⟨rfl, hmm⟩
                  have HSO1 := Lib.hid (HSO.out.keep hmm (fun e => e))
                  clear HSO
                  have HSO := HSO1
                  clear HSO1
                  have HUO1 := Lib.hid (HUO.out.keep hmm (fun e => e) (fun e => e))
                  clear HUO
                  have HUO := HUO1
                  clear HUO1
                  replace HS := Lib.hid (HS.out.step (Mod.upF hmm))
                  clear hmm
                  clear qba_0 qba_1 qba_2 lba
                  have hbba := (HS.out.now).2.2.2.1
                  have qba_0 := hbba.cell 0 rfl
                  have qba_1 := hbba.cell 1 rfl
                  have qba_2 := hbba.cell 2 rfl
                  have lba := hbba.lt
                  clear hbba
                  go_wp2_with fail
                  go_meet
                  exact ⟨putU un us xs, HSO.out, HUO.out, (HS.out.now).2.2.1⟩
                case neg =>
                  go_wp2_with fail
                  refine (close_no p n us _ HSO.out al ml cl xs HXL.out (HRX.out.keepA ((HS.out.now).2.2.1) (fun _ _ e => e.elim)) (by omega) un (fun h => hc ⟨⟨h.1, h.2.1⟩, h.2.2⟩)).mono ?_
                  rintro e w' ⟨rfl, rfl⟩
                  go_wp2_with fail
                  refine (uclose_any q g n (us.take n) _ HUO.out al ml cl xs ⟨HRX.out.keepA ((HS.out.now).2.2.1) (fun _ _ e => e.elim), HXL.out, fun k hk e => HRX.out.lt hk (by rw [e]; exact HGB.out)⟩ (by omega) un).mono ?_
                  rintro e wq8 hpost
                  obtain ⟨_, rfl, hmm⟩ : _ ∧ _ := (show _ ∨ _ from hpost).resolve_left (fun h => hc h.1)
                  clear hpost
                  have HSO1 := Lib.hid (HSO.out.keep hmm (fun e => e))
                  clear HSO
                  have HSO := HSO1
                  clear HSO1
                  have HUO1 := Lib.hid (HUO.out.keep hmm (fun e => e) (fun e => e))
                  clear HUO
                  have HUO := HUO1
                  clear HUO1
                  replace HS := Lib.hid (HS.out.step (Mod.upF hmm))
                  clear hmm
                  clear qba_0 qba_1 qba_2 lba
                  have hbba := (HS.out.now).2.1
                  have qba_0 := hbba.cell 0 rfl
                  have qba_1 := hbba.cell 1 rfl
                  have qba_2 := hbba.cell 2 rfl
                  have lba := hbba.lt
                  clear hbba
                  go_wp2_with fail
                  refine (ints_as _ none 0 0 [] rfl (Rd.nil _ _) none 0 0 [] rfl (Rd.nil _ _) (by omega) true (by simp)).mono ?_
                  rintro e wq9 ⟨rfl, hmm⟩
                  have HSO1 := Lib.hid (HSO.out.keep hmm (fun e => e))
                  clear HSO
                  have HSO := HSO1
                  clear HSO1
                  have HUO1 := Lib.hid (HUO.out.keep hmm (fun e => e) (fun e => e))
                  clear HUO
                  have HUO := HUO1
                  clear HUO1
                  replace HS := Lib.hid (HS.out.step (Mod.upF hmm))
                  clear hmm
                  clear qba_0 qba_1 qba_2 lba
                  have hbba := (HS.out.now).2.1
                  have qba_0 := hbba.cell 0 rfl
                  have qba_1 := hbba.cell 1 rfl
                  have qba_2 := hbba.cell 2 rfl
                  have lba := hbba.lt
                  clear hbba
                  go_wp2_with fail
                  go_meet
                  exact ⟨us, HSO.out, HUO.out, (HS.out.now).1⟩
              case neg =>
                have zk1 : (kd == 1) = false := by rw [beq_eq_false_iff_ne]; exact hk1
                by_cases hk2 : kd = 2
                case pos =>
                  have zk2 : (kd == 2) = true := by rw [hk2]; rfl
                  clear hk2
                  by_cases hc : (hasB n xs = true)
                  case pos =>
                    have hul := HSO.out.len
                    have hts := told_same 0 n us xs (by omega) hc
                    have hpt := putU_take 0 n xs us hc
                    obtain ⟨zs, hzs⟩ : ∃ z, listK (frK 0 (us.take n) xs xs.length) n = z := ⟨_, rfl⟩
                    rw [hzs] at hts
                    have hzl : zs.length ≤ 512 := by rw [← hzs]; have := listK_len (frK 0 (us.take n) xs xs.length) n; omega
                    have lp0 := HSO.out.blk.lt
                    have lg0 := HUO.out.gl
                    go_wp2_with fail
                    refine (open_ok p n us _ HSO.out al ml cl xs ⟨HRX.out.keepA ((HS.out.now).2.2.1) (fun _ _ e => e.elim), HXL.out, fun k hk e => HRX.out.lt hk (by rw [e]; exact HPB.out)⟩ (by omega) hc).mono ?_
                    rintro e wq10 ⟨v, rfl, hown, hsn, hmm⟩
                    have hmt := hmm
                    have HUO1 := Lib.hid (HUO.out.keep hmt hqp hgp)
                    clear HUO
                    have HUO := HUO1
                    clear HUO1
                    clear HSO
                    have HSO := Lib.hid hsn
                    replace HS := Lib.hid (HS.out.step (Mod.mono hmt (fun _ _ e => Or.inl e)))
                    clear hmm hmt hsn
                    rw [hts] at hown
                    have hoi : OwnI wb.heap.size zs _ wq10 := OwnI.of hown (by rw [← hts, srtI_len]) (Nat.le_refl _)
                    obtain ⟨xa, xc, rfl, hor⟩ := hoi
                    have hlo : ∀ k, (Value.slice xa zs.length xc).ownBlock = some k → (k = p ∨ k = g) → zs.map (Value.int .i64) = [] := fun k hk e => absurd (hor.lt k hk).1 (by rcases e with e | e <;> omega)
                    replace HS := Lib.hid ((EvF.rdA (Rd.ofOwn hor) hlo).and HS.out)
                    clear hor hlo
                    clear lp0 lg0
                    clear qba_0 qba_1 qba_2 lba
                    have hbba := (HS.out.now).2.2.1
                    have qba_0 := hbba.cell 0 rfl
                    have qba_1 := hbba.cell 1 rfl
                    have qba_2 := hbba.cell 2 rfl
                    have lba := hbba.lt
                    clear hbba
                    go_wp2_with fail
                    have lp1 := HSO.out.blk.lt
                    have lg1 := HUO.out.gl
                    refine (uopen_any q g n (us.take n) _ HUO.out al ml cl xs ⟨HRX.out.keepA ((HS.out.now).2.2.2.1) (fun _ _ e => e.elim), HXL.out, fun k hk e => HRX.out.lt hk (by rw [e]; exact HGB.out)⟩ (by omega)).mono ?_
                    rintro e wq11 hpost
                    obtain ⟨_, v2, rfl, hown, hsn, hmm⟩ : _ ∧ _ := (show _ ∨ _ from hpost).resolve_right (fun h => h.1 hc)
                    clear hpost
                    rw [hzs] at hown
                    rw [hpt] at hsn
                    have HSO1 := Lib.hid (HSO.out.keep hmm hpg)
                    clear HSO
                    have HSO := HSO1
                    clear HSO1
                    clear HUO
                    have HUO := Lib.hid hsn
                    replace HS := Lib.hid (HS.out.step (Mod.mono hmm (fun _ _ e => Or.inr e)))
                    clear hmm hsn
                    have hoi : OwnI wq10.heap.size zs _ wq11 := OwnI.of hown rfl (Nat.le_refl _)
                    obtain ⟨ya, yc, rfl, hor⟩ := hoi
                    have hlo : ∀ k, (Value.slice ya zs.length yc).ownBlock = some k → (k = p ∨ k = g) → zs.map (Value.int .i64) = [] := fun k hk e => absurd (hor.lt k hk).1 (by rcases e with e | e <;> omega)
                    replace HS := Lib.hid ((EvF.rdA (Rd.ofOwn hor) hlo).and HS.out)
                    clear hor hlo
                    clear lp1 lg1
                    clear qba_0 qba_1 qba_2 lba
                    have hbba := (HS.out.now).2.2.2.1
                    have qba_0 := hbba.cell 0 rfl
                    have qba_1 := hbba.cell 1 rfl
                    have qba_2 := hbba.cell 2 rfl
                    have lba := hbba.lt
                    clear hbba
                    go_wp2_with fail
                    refine (ints_as _ xa zs.length xc zs rfl ((HS.out.now).2.1) ya zs.length yc zs rfl ((HS.out.now).1) (by omega) true (by simp)).mono ?_
                    rintro e wq12 ⟨rfl, hmm⟩
                    have HSO1 := Lib.hid (HSO.out.keep hmm (fun e => e))
                    clear HSO
                    have HSO := HSO1
                    clear HSO1
                    have HUO1 := Lib.hid (HUO.out.keep hmm (fun e => e) (fun e => e))
                    clear HUO
                    have HUO := HUO1
                    clear HUO1
                    replace HS := Lib.hid (HS.out.step (Mod.upF hmm))
                    clear hmm
                    clear qba_0 qba_1 qba_2 lba
                    have hbba := (HS.out.now).2.2.2.1
                    have qba_0 := hbba.cell 0 rfl
                    have qba_1 := hbba.cell 1 rfl
                    have qba_2 := hbba.cell 2 rfl
                    have lba := hbba.lt
                    clear hbba
                    go_wp2_with fail
                    go_meet
                    exact ⟨putU 0 us xs, HSO.out, HUO.out, (HS.out.now).2.2.1⟩
                  case neg =>
                    go_wp2_with fail
                    refine (open_no p n us _ HSO.out al ml cl xs HXL.out (HRX.out.keepA ((HS.out.now).2.2.1) (fun _ _ e => e.elim)) (by omega) (by simpa using hc)).mono ?_
                    rintro e w' ⟨rfl, rfl⟩
                    go_wp2_with fail
                    refine (uopen_any q g n (us.take n) _ HUO.out al ml cl xs ⟨HRX.out.keepA ((HS.out.now).2.2.1) (fun _ _ e => e.elim), HXL.out, fun k hk e => HRX.out.lt hk (by rw [e]; exact HGB.out)⟩ (by omega)).mono ?_
                    rintro e wq13 hpost
                    obtain ⟨_, rfl, hmm⟩ : _ ∧ _ := (show _ ∨ _ from hpost).resolve_left (fun h => hc h.1)
                    clear hpost
                    have HSO1 := Lib.hid (HSO.out.keep hmm (fun e => e))
                    clear HSO
                    have HSO := HSO1
                    clear HSO1
                    have HUO1 := Lib.hid (HUO.out.keep hmm (fun e => e) (fun e => e))
                    clear HUO
                    have HUO := HUO1
                    clear HUO1
                    replace HS := Lib.hid (HS.out.step (Mod.upF hmm))
                    clear hmm
                    clear qba_0 qba_1 qba_2 lba
                    have hbba := (HS.out.now).2.1
                    have qba_0 := hbba.cell 0 rfl
                    have qba_1 := hbba.cell 1 rfl
                    have qba_2 := hbba.cell 2 rfl
                    have lba := hbba.lt
                    clear hbba
                    go_wp2_with fail
                    refine (ints_as _ none 0 0 [] rfl (Rd.nil _ _) none 0 0 [] rfl (Rd.nil _ _) (by omega) true (by simp)).mono ?_
                    rintro e wq14 ⟨rfl, hmm⟩
                    have HSO1 := Lib.hid (HSO.out.keep hmm (fun e => e))
                    clear HSO
                    have HSO := HSO1
                    clear HSO1
                    have HUO1 := Lib.hid (HUO.out.keep hmm (fun e => e) (fun e => e))
                    clear HUO
                    have HUO := HUO1
                    clear HUO1
                    replace HS := Lib.hid (HS.out.step (Mod.upF hmm))
                    clear hmm
                    clear qba_0 qba_1 qba_2 lba
                    have hbba := (HS.out.now).2.1
                    have qba_0 := hbba.cell 0 rfl
                    have qba_1 := hbba.cell 1 rfl
                    have qba_2 := hbba.cell 2 rfl
                    have lba := hbba.lt
                    clear hbba
                    go_wp2_with fail
                    go_meet
                    exact ⟨us, HSO.out, HUO.out, (HS.out.now).1⟩
                case neg =>
                  have zk2 : (kd == 2) = false := by rw [beq_eq_false_iff_ne]; exact hk2
                  by_cases hk3 : kd = 3
                  case pos =>
                    have zk3 : (kd == 3) = true := by rw [hk3]; rfl
                    clear hk3
                    have hul := HSO.out.len
                    have hto := lapse_told un n us (by omega)
                    have htk := over_take un n us (by omega)
                    have hle := lapse_left un n us (by omega)
                    obtain ⟨zs, hzs⟩ : ∃ z, overL un (allK us n) = z := ⟨_, rfl⟩
                    obtain ⟨us2, hu2⟩ : ∃ z, putU 0 us zs = z := ⟨_, rfl⟩
                    have hzl : zs.length ≤ 512 := by rw [← hzs]; have h1 := overL_len un (allK us n); have h2 := allK_len us n; omega
                    rw [hzs] at hto htk hle
                    rw [hu2] at hle
                    have HTO := Lib.hid hto
                    have HTK := Lib.hid htk
                    have HLE := Lib.hid hle
                    have HZS := Lib.hid hzs
                    have HU2 := Lib.hid hu2
                    have HZL := Lib.hid hzl
                    clear hto htk hle hzs hu2 hzl hul
                    go_upto_region 27 with fail
                    clear qba_0 qba_1 qba_2 lba
                    obtain ⟨B0, hB0⟩ : ∃ b, wb.heap.size = b := ⟨_, rfl⟩
                    have lp0 : p < B0 := by rw [← hB0]; exact HSO.out.blk.lt
                    have lg0 : g < B0 := by rw [← hB0]; exact HUO.out.gl
                    have HB0 := Lib.hid hB0
                    clear hB0
                    refine wp_region_gen (act := ?actlap) (LapI p q g n ba 0 B0 un [.int .i64 kd, .int .i64 un, .slice al ml cl] us us2 zs (World.drew wb)) (fun i => ac_lapD.getD i []) (by kernel_rfl) (by kernel_rfl) (by kernel_rfl) (by kernel_rfl) ?hactlap ?h0lap ?_ ?_
                    case hactlap => intro vs; simp only [putAll, Nat.zero_add, Nat.reduceAdd, Act.put, List.setIfInBounds_toArray, List.set_cons_succ, List.set_cons_zero]; exact rfl
                    case h0lap => intro vs; exact ⟨fun h => h.elim, fun h => h.elim, fun h => h.elim, fun h => h.elim, fun h => h.elim, fun h => h.elim, fun h => h.elim, fun h => h.elim, fun h => h.elim, fun h => h.elim, fun _ => HSO.out.keep (Mod.drew (fun _ => False) _) (fun e => e), fun h => h.elim, fun _ => HUO.out.keep (Mod.drew (fun _ => False) _) (fun e => e) (fun e => e), fun h => h.elim, ((HS.out.now).2.1).drew, Mod.refl _ _⟩
                    · refine opsOkG_cons ?_ ?_
                      · intro K vs W L hI hD hnL hK
                        try dsimp only at hK ⊢
                        simp only [Act.put, List.setIfInBounds_toArray, List.set_cons_succ, List.set_cons_zero] at hK
                        have HI := Lib.hid hI
                        clear hI hD hnL
                        go_wp2
                        first | exact HI.out.val (Mod.refl _ _) 0 rfl | exact hK _ _ (HI.out.val (Mod.refl _ _) 0 rfl)
                      refine opsOkG_cons ?_ ?_
                      · intro K vs W L hI hD hnL hK
                        try dsimp only at hK ⊢
                        simp only [Act.put, List.setIfInBounds_toArray, List.set_cons_succ, List.set_cons_zero] at hK
                        have HI := Lib.hid hI
                        clear hI hD hnL
                        go_wp2
                        first | exact HI.out.val (Mod.refl _ _) 1 rfl | exact hK _ _ (HI.out.val (Mod.refl _ _) 1 rfl)
                      refine opsOkG_cons ?_ ?_
                      · intro K vs W L hI hD hnL hK
                        have dq1 : vs 1 = .pointer (some ⟨ba, 1, none⟩) := hI.v1 (hD 1 (by decide))
                        try dsimp only at hK ⊢
                        simp only [Act.put, List.setIfInBounds_toArray, List.set_cons_succ, List.set_cons_zero] at hK
                        have HI := Lib.hid hI
                        rw [dq1] at hK ⊢
                        have q1 := hI.bl.cell 1 rfl
                        have lb := hI.bl.lt
                        clear hI hD hnL
                        go_wp2
                        first | exact HI.out.val (Mod.refl _ _) 2 rfl | exact hK _ _ (HI.out.val (Mod.refl _ _) 2 rfl)
                      refine opsOkG_cons ?_ ?_
                      · intro K vs W L hI hD hnL hK
                        have dq0 : vs 0 = .pointer (some ⟨p, 0, none⟩) := hI.v0 (hD 0 (by decide))
                        have dq2 : vs 2 = .int .i64 un := hI.v2 (hD 2 (by decide))
                        try dsimp only at hK ⊢
                        simp only [Act.put, List.setIfInBounds_toArray, List.set_cons_succ, List.set_cons_zero] at hK
                        have HI := Lib.hid hI
                        rw [dq0] at hK ⊢
                        rw [dq2] at hK ⊢
                        have hs := hI.so hnL
                        clear hI hD hnL
                        go_wp2_with (go_at_call 15; refine (lapse_any p n us W hs un).mono ?_; rintro e' w' ⟨v', rfl, ho', hs', hm'⟩)
                        rw [HZS.out] at ho' hs'
                        rw [HTO.out] at ho'
                        rw [HU2.out] at hs'
                        have hsz : B0 ≤ W.heap.size := by have h1 := HI.out.md.size; have h2 := HB0.out; simp at h1; omega
                        have hone := HI.out.one hm' ⟨lp0, lg0⟩ ⟨hqp, hgp, hbp⟩ (OwnI.of ho' (by rw [← HTO.out, srtI_len, HTO.out]) hsz) hs'
                        first | exact hone | exact hK _ _ hone
                      refine opsOkG_cons ?_ ?_
                      · intro K vs W L hI hD hnL hK
                        try dsimp only at hK ⊢
                        simp only [Act.put, List.setIfInBounds_toArray, List.set_cons_succ, List.set_cons_zero] at hK
                        have HI := Lib.hid hI
                        clear hI hD hnL
                        go_wp2
                        first | exact HI.out.val (Mod.refl _ _) 4 rfl | exact hK _ _ (HI.out.val (Mod.refl _ _) 4 rfl)
                      refine opsOkG_cons ?_ ?_
                      · intro K vs W L hI hD hnL hK
                        try dsimp only at hK ⊢
                        simp only [Act.put, List.setIfInBounds_toArray, List.set_cons_succ, List.set_cons_zero] at hK
                        have HI := Lib.hid hI
                        clear hI hD hnL
                        go_wp2
                        first | exact HI.out.val (Mod.refl _ _) 5 rfl | exact hK _ _ (HI.out.val (Mod.refl _ _) 5 rfl)
                      refine opsOkG_cons ?_ ?_
                      · intro K vs W L hI hD hnL hK
                        have dq5 : vs 5 = .pointer (some ⟨ba, 1, none⟩) := hI.v5 (hD 5 (by decide))
                        try dsimp only at hK ⊢
                        simp only [Act.put, List.setIfInBounds_toArray, List.set_cons_succ, List.set_cons_zero] at hK
                        have HI := Lib.hid hI
                        rw [dq5] at hK ⊢
                        have q1 := hI.bl.cell 1 rfl
                        have lb := hI.bl.lt
                        clear hI hD hnL
                        go_wp2
                        first | exact HI.out.val (Mod.refl _ _) 6 rfl | exact hK _ _ (HI.out.val (Mod.refl _ _) 6 rfl)
                      refine opsOkG_cons ?_ ?_
                      · intro K vs W L hI hD hnL hK
                        have dq4 : vs 4 = .pointer (some ⟨q, 0, none⟩) := hI.v4 (hD 4 (by decide))
                        have dq6 : vs 6 = .int .i64 un := hI.v6 (hD 6 (by decide))
                        try dsimp only at hK ⊢
                        simp only [Act.put, List.setIfInBounds_toArray, List.set_cons_succ, List.set_cons_zero] at hK
                        have HI := Lib.hid hI
                        rw [dq4] at hK ⊢
                        rw [dq6] at hK ⊢
                        have hs := hI.uo hnL
                        clear hI hD hnL
                        go_wp2_with (go_at_call 16; refine (ulapse_any q g n (us.take n) W hs un).mono ?_; rintro e' w' ⟨v', rfl, ho', hs', hm'⟩)
                        rw [HTK.out] at ho'
                        rw [HLE.out] at hs'
                        have hsz : B0 ≤ W.heap.size := by have h1 := HI.out.md.size; have h2 := HB0.out; simp at h1; omega
                        have htwo := HI.out.two hm' ⟨lp0, lg0⟩ ⟨hpg, hbg⟩ (OwnI.of ho' rfl hsz) hs'
                        first | exact htwo | exact hK _ _ htwo
                      refine opsOkG_cons ?_ ?_
                      · intro K vs W L hI hD hnL hK
                        have dq3 := hI.v3 (hD 3 (by decide))
                        have dq7 := hI.v7 (hD 7 (by decide))
                        try dsimp only at hK ⊢
                        simp only [Act.put, List.setIfInBounds_toArray, List.set_cons_succ, List.set_cons_zero] at hK
                        have HI := Lib.hid hI
                        obtain ⟨a3, c3, hv3, ho3⟩ := dq3
                        rw [hv3] at hK ⊢
                        obtain ⟨a7, c7, hv7, ho7⟩ := dq7
                        rw [hv7] at hK ⊢
                        have hr3 := Rd.ofOwn ho3
                        have hr7 := Rd.ofOwn ho7
                        clear hI hD hnL
                        go_wp2_with (go_at_call 12; refine (ints_as W a3 zs.length c3 zs rfl hr3 a7 zs.length c7 zs rfl hr7 (by have := HZL.out; omega) true (by simp)).mono ?_; rintro e' w' ⟨rfl, hm'⟩)
                        first | exact HI.out.val hm' 8 rfl | exact hK _ _ (HI.out.val hm' 8 rfl)
                      refine opsOkG_cons ?_ ?_
                      · intro K vs W L hI hD hnL hK
                        have dq8 : vs 8 = .bool true := hI.v8 (hD 8 (by decide))
                        try dsimp only at hK ⊢
                        simp only [Act.put, List.setIfInBounds_toArray, List.set_cons_succ, List.set_cons_zero] at hK
                        have HI := Lib.hid hI
                        rw [dq8] at hK ⊢
                        clear hI hD hnL
                        go_wp2
                        first | exact HI.out.val (Mod.refl _ _) 9 rfl | exact hK _ _ (HI.out.val (Mod.refl _ _) 9 rfl)
                      exact opsOkG_nil
                    · intro vs wq15 L hI hall
                      have hn9 : vs 9 = .bool false := hI.v9 (hall 9 (by decide))
                      have hs3 := hI.so2 (hall 3 (by decide))
                      have hs7 := hI.uo2 (hall 7 (by decide))
                      have hmd := hI.md
                      clear hI hall
                      try dsimp only
                      rw [hn9]
                      generalize vs 9 = vq9 at hn9
                      clear hn9
                      have HSR := Lib.hid hs3
                      have HUR := Lib.hid hs7
                      have HMR : Hid (Mod (fun k => k = p ∨ k = g) wb wq15) := Lib.hid ((((HS.out.now).1).thenDrew).trans hmd (fun _ _ e => e) (fun _ _ e => e))
                      clear hs3 hs7 hmd
                      go_wp2_with fail
                      go_meet
                      exact ⟨us2, HSR.out, HUR.out, HMR.out⟩
                  case neg =>
                    have zk3 : (kd == 3) = false := by rw [beq_eq_false_iff_ne]; exact hk3
                    go_wp2_with fail
                    go_meet
                    exact ⟨us, HSO.out, HUO.out, (HS.out.now).1⟩
            case rest =>
              obtain ⟨us1, hso, huo, hmc⟩ := hcut
              obtain ⟨we, hwe⟩ : ∃ x : World, x = wc := ⟨_, rfl⟩
              subst hwe
              clear HSO HUO
              have HSO := Lib.hid hso
              have HUO := Lib.hid huo
              clear hso huo
              clear qba_0 qba_1 qba_2 lba
              replace HS := Lib.hid (HS.out.step hmc)
              clear hmc
              have hbba := (HS.out.now).2.1
              have qba_0 := hbba.cell 0 rfl
              have qba_1 := hbba.cell 1 rfl
              have qba_2 := hbba.cell 2 rfl
              have lba := hbba.lt
              clear hbba
              have lp0 := HSO.out.blk.lt
              have lg0 := HUO.out.gl
              go_wp2_with fail
              refine (mask_any p n us1 _ HSO.out).mono ?_
              rintro e wq16 ⟨g1, rfl, hgg, hom, hmm⟩
              have HSO1 := Lib.hid (HSO.out.keep hmm (fun e => e))
              clear HSO
              have HSO := HSO1
              clear HSO1
              have HUO1 := Lib.hid (HUO.out.keep hmm (fun e => e) (fun e => e))
              clear HUO
              have HUO := HUO1
              clear HUO1
              replace HS := Lib.hid (HS.out.step (Mod.upF hmm))
              clear hmm
              have hg1p : ¬ g1 = p := by omega
              have hg1g : ¬ g1 = g := by omega
              replace HS := Lib.hid ((EvF.rdA (Rd.ofOwn hom) (fun k hk e => absurd (hom.lt k hk).1 (by rcases e with e | e <;> omega))).and HS.out)
              clear hom hgg lp0 lg0
              clear qba_0 qba_1 qba_2 lba
              have hbba := (HS.out.now).2.2.1
              have qba_0 := hbba.cell 0 rfl
              have qba_1 := hbba.cell 1 rfl
              have qba_2 := hbba.cell 2 rfl
              have lba := hbba.lt
              clear hbba
              have lp0 := HSO.out.blk.lt
              have lg0 := HUO.out.gl
              go_wp2_with fail
              refine (umask_any q g n (us1.take n) _ HUO.out).mono ?_
              rintro e wq17 ⟨g2, rfl, hgg, hom, hmm⟩
              have HSO1 := Lib.hid (HSO.out.keep hmm (fun e => e))
              clear HSO
              have HSO := HSO1
              clear HSO1
              have HUO1 := Lib.hid (HUO.out.keep hmm (fun e => e) (fun e => e))
              clear HUO
              have HUO := HUO1
              clear HUO1
              replace HS := Lib.hid (HS.out.step (Mod.upF hmm))
              clear hmm
              rw [maskL_take] at hom
              have hg2p : ¬ g2 = p := by omega
              have hg2g : ¬ g2 = g := by omega
              replace HS := Lib.hid ((EvF.rdA (Rd.ofOwn hom) (fun k hk e => absurd (hom.lt k hk).1 (by rcases e with e | e <;> omega))).and HS.out)
              clear hom hgg lp0 lg0
              clear qba_0 qba_1 qba_2 lba
              have hbba := (HS.out.now).2.2.2.1
              have qba_0 := hbba.cell 0 rfl
              have qba_1 := hbba.cell 1 rfl
              have qba_2 := hbba.cell 2 rfl
              have lba := hbba.lt
              clear hbba
              have hal : (allK us1 n).length ≤ 512 := Nat.le_trans (allK_len us1 n) hn512
              obtain ⟨AL, hAL⟩ : ∃ L, allK us1 n = L := ⟨_, rfl⟩
              rw [hAL] at hal
              have HAL := Lib.hid hAL
              have HAB := Lib.hid hal
              clear hAL hal
              go_upto_region 30 with fail
              have hul1 := HSO.out.len
              go_cut [160] (fun cv wx => cv = .bool false ∧ Mod (fun _ => False) wq17 wx)
              case first =>
                by_cases hlow : un < 0
                case pos =>
                  have HCB : Hid (closedB us1 n un = false) := Lib.hid (by unfold closedB; rw [show edge1 n un = false from decide_eq_false (by omega)]; rfl)
                  have ZU : Hid (decide (0 ≤ un) = false) := Lib.hid (decide_eq_false (by omega))
                  clear hlow
                  clear qba_0 qba_1 qba_2 lba
                  have HSd := Lib.hid HS.out.drew
                  refine wp_region_inv3 (act := ?actac_r30_0) (Mod (fun _ => False)) (fun i => (ac_r30_0_F n p q ba g1 g2 un AL).getD i (fun _ _ => True)) (fun i => ac_r30_0_D.getD i []) (by kernel_rfl) (by kernel_rfl) (by kernel_rfl) (by kernel_rfl) (fun _ => Mod.refl _ _)
                    (fun _ _ _ h k => h.trans k (fun _ _ e => e) (fun _ _ e => e)) ?hactac_r30_0 (stable_list ?_) ?_ ?_
                  case hactac_r30_0 => intro vs; simp only [putAll, Nat.zero_add, Nat.reduceAdd, Act.put, List.setIfInBounds_toArray, List.set_cons_succ, List.set_cons_zero]; exact rfl
                  · unfold ac_r30_0_F
                    exact stable_cons (stable_val _) <| stable_cons (stable_val _) <| stable_cons (stable_val _) <| stable_cons (stable_val _) <| stable_cons (stable_val _) <| stable_cons (stable_val _) <| stable_cons (stable_val _) <| stable_cons (ShRow.st _) <| stable_cons (stable_val _) <| stable_cons (ShRow.st _) <| stable_cons (stable_val _) <| stable_cons (stable_val _) <| stable_cons (stable_val _) <| stable_cons (stable_val _) <| stable_cons (stable_val _) <| stable_cons (stable_val _) <| stable_cons (stable_val _) <| stable_cons (stable_val _) <| stable_cons (stable_val _) <| stable_cons (stable_val _) <| stable_cons (stable_val _) <| stable_cons (stable_val _) <| stable_cons (stable_val _) <| stable_cons (stable_val _) <| stable_cons (stable_val _) <| stable_cons (stable_val _) <| stable_cons (stable_val _) <| stable_cons (stable_val _) <| stable_cons (stable_val _) <| stable_cons (stable_val _) <| stable_cons (stable_val _) <| stable_cons (stable_val _) <| stable_cons (stable_val _) <| stable_cons (stable_val _) <| stable_cons (stable_val _) <| stable_cons (stable_val _) <| stable_cons (stable_val _) <| stable_nil
                  · refine opsOkA_cons ?_ ?_
                    · intro K vs W hR hD hK
                      clear hD
                      try dsimp only at hK ⊢
                      simp only [Act.put, List.setIfInBounds_toArray, List.set_cons_succ, List.set_cons_zero] at hK
                      go_wp2
                      exact hK _ _ rfl (Mod.refl _ _)
                    refine opsOkA_cons ?_ ?_
                    · intro K vs W hR hD hK
                      have dq0 : vs 0 = .slice (some ⟨g1, 0, none⟩) n n := hD 0 (by decide)
                      clear hD
                      try dsimp only at hK ⊢
                      simp only [Act.put, List.setIfInBounds_toArray, List.set_cons_succ, List.set_cons_zero] at hK
                      generalize vs 0 = vq0 at hK dq0 ⊢
                      subst vq0
                      go_wp2_with fail
                      exact hK _ _ rfl (Mod.refl _ _)
                    refine opsOkA_cons ?_ ?_
                    · intro K vs W hR hD hK
                      clear hD
                      try dsimp only at hK ⊢
                      simp only [Act.put, List.setIfInBounds_toArray, List.set_cons_succ, List.set_cons_zero] at hK
                      go_wp2
                      exact hK _ _ rfl (Mod.refl _ _)
                    refine opsOkA_cons ?_ ?_
                    · intro K vs W hR hD hK
                      have dq2 : vs 2 = .slice (some ⟨g2, 0, none⟩) n n := hD 2 (by decide)
                      clear hD
                      try dsimp only at hK ⊢
                      simp only [Act.put, List.setIfInBounds_toArray, List.set_cons_succ, List.set_cons_zero] at hK
                      generalize vs 2 = vq2 at hK dq2 ⊢
                      subst vq2
                      go_wp2_with fail
                      exact hK _ _ rfl (Mod.refl _ _)
                    refine opsOkA_cons ?_ ?_
                    · intro K vs W hR hD hK
                      have dq1 : vs 1 = .int .i64 (n : Int) := hD 1 (by decide)
                      have dq3 : vs 3 = .int .i64 (n : Int) := hD 3 (by decide)
                      clear hD
                      try dsimp only at hK ⊢
                      simp only [Act.put, List.setIfInBounds_toArray, List.set_cons_succ, List.set_cons_zero] at hK
                      generalize vs 1 = vq1 at hK dq1 ⊢
                      subst vq1
                      generalize vs 3 = vq3 at hK dq3 ⊢
                      subst vq3
                      go_wp2
                      exact hK _ _ rfl (Mod.refl _ _)
                    refine opsOkA_cons ?_ ?_
                    · intro K vs W hR hD hK
                      have dq4 : vs 4 = .bool false := hD 4 (by decide)
                      clear hD
                      try dsimp only at hK ⊢
                      simp only [Act.put, List.setIfInBounds_toArray, List.set_cons_succ, List.set_cons_zero] at hK
                      generalize vs 4 = vq4 at hK dq4 ⊢
                      subst vq4
                      go_wp2
                      exact hK _ _ rfl (Mod.refl _ _)
                    refine opsOkA_cons ?_ ?_
                    · intro K vs W hR hD hK
                      have dq5 : vs 5 = .bool false := hD 5 (by decide)
                      clear hD
                      try dsimp only at hK ⊢
                      simp only [Act.put, List.setIfInBounds_toArray, List.set_cons_succ, List.set_cons_zero] at hK
                      generalize vs 5 = vq5 at hK dq5 ⊢
                      subst vq5
                      go_wp2
                      exact hK _ _ rfl (Mod.refl _ _)
                    refine opsOkA_cons ?_ ?_
                    · intro K vs W hR hD hK
                      have dq5 : vs 5 = .bool false := hD 5 (by decide)
                      have dq6 : vs 6 = .pointer (some ⟨p, 0, none⟩) := hD 6 (by decide)
                      clear hD
                      try dsimp only at hK ⊢
                      simp only [Act.put, List.setIfInBounds_toArray, List.set_cons_succ, List.set_cons_zero] at hK
                      generalize vs 5 = vq5 at hK dq5 ⊢
                      subst vq5
                      generalize vs 6 = vq6 at hK dq6 ⊢
                      subst vq6
                      go_wp2_with (go_at_call 20; refine (all_any p n us1 W (HSO.out.keep ((Mod.drew (fun _ => False) _).of2 hR) (fun e => e))).mono ?_; rintro e' w' ⟨x', rfl, ho', hm'⟩)
                      exact hK _ _ (by rw [HAL.out] at ho'; exact shrow_own ho') hm'
                    refine opsOkA_cons ?_ ?_
                    · intro K vs W hR hD hK
                      have dq5 : vs 5 = .bool false := hD 5 (by decide)
                      clear hD
                      try dsimp only at hK ⊢
                      simp only [Act.put, List.setIfInBounds_toArray, List.set_cons_succ, List.set_cons_zero] at hK
                      generalize vs 5 = vq5 at hK dq5 ⊢
                      subst vq5
                      go_wp2
                      exact hK _ _ rfl (Mod.refl _ _)
                    refine opsOkA_cons ?_ ?_
                    · intro K vs W hR hD hK
                      have dq5 : vs 5 = .bool false := hD 5 (by decide)
                      have dq8 : vs 8 = .pointer (some ⟨q, 0, none⟩) := hD 8 (by decide)
                      clear hD
                      try dsimp only at hK ⊢
                      simp only [Act.put, List.setIfInBounds_toArray, List.set_cons_succ, List.set_cons_zero] at hK
                      generalize vs 5 = vq5 at hK dq5 ⊢
                      subst vq5
                      generalize vs 8 = vq8 at hK dq8 ⊢
                      subst vq8
                      go_wp2_with (go_at_call 21; refine (uall_any q g n (us1.take n) W (HUO.out.keep ((Mod.drew (fun _ => False) _).of2 hR) (fun e => e) (fun e => e))).mono ?_; rintro e' w' ⟨x', rfl, ho', hm'⟩)
                      exact hK _ _ (by rw [allK_take, HAL.out] at ho'; exact shrow_own ho') hm'
                    refine opsOkA_cons ?_ ?_
                    · intro K vs W hR hD hK
                      have dq5 : vs 5 = .bool false := hD 5 (by decide)
                      have dq7 : (ShRow AL) (vs 7) W := hD 7 (by decide)
                      have dq9 : (ShRow AL) (vs 9) W := hD 9 (by decide)
                      clear hD
                      try dsimp only at hK ⊢
                      simp only [Act.put, List.setIfInBounds_toArray, List.set_cons_succ, List.set_cons_zero] at hK
                      generalize vs 5 = vq5 at hK dq5 ⊢
                      subst vq5
                      generalize vs 7 = vq7 at hK dq7 ⊢
                      generalize vs 9 = vq9 at hK dq9 ⊢
                      obtain ⟨ax7, cx7, rfl, hx7⟩ := dq7
                      obtain ⟨ax9, cx9, rfl, hx9⟩ := dq9
                      go_wp2_with (go_at_call 19; refine (same_eq W ax7 AL.length cx7 AL rfl hx7 ax9 cx9 hx9 (by have := HAB.out; omega)).mono ?_; rintro e' w' ⟨rfl, hm'⟩)
                      exact hK _ _ rfl hm'
                    refine opsOkA_cons ?_ ?_
                    · intro K vs W hR hD hK
                      have dq5 : vs 5 = .bool false := hD 5 (by decide)
                      have dq10 : vs 10 = .bool true := hD 10 (by decide)
                      clear hD
                      try dsimp only at hK ⊢
                      simp only [Act.put, List.setIfInBounds_toArray, List.set_cons_succ, List.set_cons_zero] at hK
                      generalize vs 5 = vq5 at hK dq5 ⊢
                      subst vq5
                      generalize vs 10 = vq10 at hK dq10 ⊢
                      subst vq10
                      go_wp2
                      exact hK _ _ rfl (Mod.refl _ _)
                    refine opsOkA_cons ?_ ?_
                    · intro K vs W hR hD hK
                      have dq5 : vs 5 = .bool false := hD 5 (by decide)
                      have dq11 : vs 11 = .bool false := hD 11 (by decide)
                      clear hD
                      try dsimp only at hK ⊢
                      simp only [Act.put, List.setIfInBounds_toArray, List.set_cons_succ, List.set_cons_zero] at hK
                      generalize vs 5 = vq5 at hK dq5 ⊢
                      subst vq5
                      generalize vs 11 = vq11 at hK dq11 ⊢
                      subst vq11
                      go_wp2
                      exact hK _ _ rfl (Mod.refl _ _)
                    refine opsOkA_cons ?_ ?_
                    · intro K vs W hR hD hK
                      have dq12 : vs 12 = .bool false := hD 12 (by decide)
                      clear hD
                      try dsimp only at hK ⊢
                      simp only [Act.put, List.setIfInBounds_toArray, List.set_cons_succ, List.set_cons_zero] at hK
                      generalize vs 12 = vq12 at hK dq12 ⊢
                      subst vq12
                      go_wp2
                      exact hK _ _ rfl (Mod.refl _ _)
                    refine opsOkA_cons ?_ ?_
                    · intro K vs W hR hD hK
                      have dq13 : vs 13 = .bool false := hD 13 (by decide)
                      clear hD
                      try dsimp only at hK ⊢
                      simp only [Act.put, List.setIfInBounds_toArray, List.set_cons_succ, List.set_cons_zero] at hK
                      generalize vs 13 = vq13 at hK dq13 ⊢
                      subst vq13
                      go_wp2
                      exact hK _ _ rfl (Mod.refl _ _)
                    refine opsOkA_cons ?_ ?_
                    · intro K vs W hR hD hK
                      have dq13 : vs 13 = .bool false := hD 13 (by decide)
                      clear hD
                      try dsimp only at hK ⊢
                      simp only [Act.put, List.setIfInBounds_toArray, List.set_cons_succ, List.set_cons_zero] at hK
                      generalize vs 13 = vq13 at hK dq13 ⊢
                      subst vq13
                      go_wp2
                      exact hK _ _ rfl (Mod.refl _ _)
                    refine opsOkA_cons ?_ ?_
                    · intro K vs W hR hD hK
                      have dq13 : vs 13 = .bool false := hD 13 (by decide)
                      have dq15 : vs 15 = .pointer (some ⟨ba, 1, none⟩) := hD 15 (by decide)
                      clear hD
                      try dsimp only at hK ⊢
                      simp only [Act.put, List.setIfInBounds_toArray, List.set_cons_succ, List.set_cons_zero] at hK
                      generalize vs 13 = vq13 at hK dq13 ⊢
                      subst vq13
                      generalize vs 15 = vq15 at hK dq15 ⊢
                      subst vq15
                      have q0 := ((HSd.out.at ((Mod.upF hR))).2.2.2.1).cell 1 rfl
                      go_wp2
                      exact hK _ _ rfl (Mod.refl _ _)
                    refine opsOkA_cons ?_ ?_
                    · intro K vs W hR hD hK
                      have dq13 : vs 13 = .bool false := hD 13 (by decide)
                      have dq14 : vs 14 = .pointer (some ⟨p, 0, none⟩) := hD 14 (by decide)
                      have dq16 : vs 16 = .int .i64 un := hD 16 (by decide)
                      clear hD
                      try dsimp only at hK ⊢
                      simp only [Act.put, List.setIfInBounds_toArray, List.set_cons_succ, List.set_cons_zero] at hK
                      generalize vs 13 = vq13 at hK dq13 ⊢
                      subst vq13
                      generalize vs 14 = vq14 at hK dq14 ⊢
                      subst vq14
                      generalize vs 16 = vq16 at hK dq16 ⊢
                      subst vq16
                      go_wp2_with (go_at_call 22; refine (closed_any p n us1 W (HSO.out.keep ((Mod.drew (fun _ => False) _).of2 hR) (fun e => e)) un).mono ?_; rintro e' w' ⟨rfl, hm'⟩; rw [HCB.out])
                      exact hK _ _ rfl hm'
                    refine opsOkA_cons ?_ ?_
                    · intro K vs W hR hD hK
                      have dq13 : vs 13 = .bool false := hD 13 (by decide)
                      clear hD
                      try dsimp only at hK ⊢
                      simp only [Act.put, List.setIfInBounds_toArray, List.set_cons_succ, List.set_cons_zero] at hK
                      generalize vs 13 = vq13 at hK dq13 ⊢
                      subst vq13
                      go_wp2
                      exact hK _ _ rfl (Mod.refl _ _)
                    refine opsOkA_cons ?_ ?_
                    · intro K vs W hR hD hK
                      have dq13 : vs 13 = .bool false := hD 13 (by decide)
                      have dq18 : vs 18 = .pointer (some ⟨ba, 1, none⟩) := hD 18 (by decide)
                      clear hD
                      try dsimp only at hK ⊢
                      simp only [Act.put, List.setIfInBounds_toArray, List.set_cons_succ, List.set_cons_zero] at hK
                      generalize vs 13 = vq13 at hK dq13 ⊢
                      subst vq13
                      generalize vs 18 = vq18 at hK dq18 ⊢
                      subst vq18
                      have q0 := ((HSd.out.at ((Mod.upF hR))).2.2.2.1).cell 1 rfl
                      go_wp2
                      exact hK _ _ rfl (Mod.refl _ _)
                    refine opsOkA_cons ?_ ?_
                    · intro K vs W hR hD hK
                      have dq13 : vs 13 = .bool false := hD 13 (by decide)
                      have dq19 : vs 19 = .int .i64 un := hD 19 (by decide)
                      clear hD
                      try dsimp only at hK ⊢
                      simp only [Act.put, List.setIfInBounds_toArray, List.set_cons_succ, List.set_cons_zero] at hK
                      generalize vs 13 = vq13 at hK dq13 ⊢
                      subst vq13
                      generalize vs 19 = vq19 at hK dq19 ⊢
                      subst vq19
                      have zz := ZU.out
                      go_wp2
                      exact hK _ _ rfl (Mod.refl _ _)
                    refine opsOkA_cons ?_ ?_
                    · intro K vs W hR hD hK
                      have dq13 : vs 13 = .bool false := hD 13 (by decide)
                      have dq20 : vs 20 = .bool false := hD 20 (by decide)
                      clear hD
                      try dsimp only at hK ⊢
                      simp only [Act.put, List.setIfInBounds_toArray, List.set_cons_succ, List.set_cons_zero] at hK
                      generalize vs 13 = vq13 at hK dq13 ⊢
                      subst vq13
                      generalize vs 20 = vq20 at hK dq20 ⊢
                      subst vq20
                      go_wp2
                      exact hK _ _ rfl (Mod.refl _ _)
                    refine opsOkA_cons ?_ ?_
                    · intro K vs W hR hD hK
                      have dq21 : vs 21 = .bool false := hD 21 (by decide)
                      clear hD
                      try dsimp only at hK ⊢
                      simp only [Act.put, List.setIfInBounds_toArray, List.set_cons_succ, List.set_cons_zero] at hK
                      generalize vs 21 = vq21 at hK dq21 ⊢
                      subst vq21
                      go_wp2
                      exact hK _ _ rfl (Mod.refl _ _)
                    refine opsOkA_cons ?_ ?_
                    · intro K vs W hR hD hK
                      have dq21 : vs 21 = .bool false := hD 21 (by decide)
                      clear hD
                      try dsimp only at hK ⊢
                      simp only [Act.put, List.setIfInBounds_toArray, List.set_cons_succ, List.set_cons_zero] at hK
                      generalize vs 21 = vq21 at hK dq21 ⊢
                      subst vq21
                      go_wp2
                      exact hK _ _ rfl (Mod.refl _ _)
                    refine opsOkA_cons ?_ ?_
                    · intro K vs W hR hD hK
                      have dq21 : vs 21 = .bool false := hD 21 (by decide)
                      clear hD
                      try dsimp only at hK ⊢
                      simp only [Act.put, List.setIfInBounds_toArray, List.set_cons_succ, List.set_cons_zero] at hK
                      generalize vs 21 = vq21 at hK dq21 ⊢
                      subst vq21
                      go_wp2
                      exact hK _ _ rfl (Mod.refl _ _)
                    refine opsOkA_cons ?_ ?_
                    · intro K vs W hR hD hK
                      have dq21 : vs 21 = .bool false := hD 21 (by decide)
                      clear hD
                      try dsimp only at hK ⊢
                      simp only [Act.put, List.setIfInBounds_toArray, List.set_cons_succ, List.set_cons_zero] at hK
                      generalize vs 21 = vq21 at hK dq21 ⊢
                      subst vq21
                      go_wp2_with fail
                      exact hK _ _ rfl (Mod.refl _ _)
                    refine opsOkA_cons ?_ ?_
                    · intro K vs W hR hD hK
                      have dq21 : vs 21 = .bool false := hD 21 (by decide)
                      clear hD
                      try dsimp only at hK ⊢
                      simp only [Act.put, List.setIfInBounds_toArray, List.set_cons_succ, List.set_cons_zero] at hK
                      generalize vs 21 = vq21 at hK dq21 ⊢
                      subst vq21
                      go_wp2
                      exact hK _ _ rfl (Mod.refl _ _)
                    refine opsOkA_cons ?_ ?_
                    · intro K vs W hR hD hK
                      have dq13 : vs 13 = .bool false := hD 13 (by decide)
                      have dq21 : vs 21 = .bool false := hD 21 (by decide)
                      have dq26 : vs 26 = undef := hD 26 (by decide)
                      clear hD
                      try dsimp only at hK ⊢
                      simp only [Act.put, List.setIfInBounds_toArray, List.set_cons_succ, List.set_cons_zero] at hK
                      generalize vs 13 = vq13 at hK dq13 ⊢
                      subst vq13
                      generalize vs 21 = vq21 at hK dq21 ⊢
                      subst vq21
                      generalize vs 26 = vq26 at hK dq26 ⊢
                      subst vq26
                      go_wp2
                      exact hK _ _ rfl (Mod.refl _ _)
                    refine opsOkA_cons ?_ ?_
                    · intro K vs W hR hD hK
                      have dq13 : vs 13 = .bool false := hD 13 (by decide)
                      have dq27 : vs 27 = .bool false := hD 27 (by decide)
                      clear hD
                      try dsimp only at hK ⊢
                      simp only [Act.put, List.setIfInBounds_toArray, List.set_cons_succ, List.set_cons_zero] at hK
                      generalize vs 13 = vq13 at hK dq13 ⊢
                      subst vq13
                      generalize vs 27 = vq27 at hK dq27 ⊢
                      subst vq27
                      go_wp2
                      exact hK _ _ rfl (Mod.refl _ _)
                    refine opsOkA_cons ?_ ?_
                    · intro K vs W hR hD hK
                      have dq28 : vs 28 = .bool false := hD 28 (by decide)
                      clear hD
                      try dsimp only at hK ⊢
                      simp only [Act.put, List.setIfInBounds_toArray, List.set_cons_succ, List.set_cons_zero] at hK
                      generalize vs 28 = vq28 at hK dq28 ⊢
                      subst vq28
                      go_wp2
                      exact hK _ _ rfl (Mod.refl _ _)
                    refine opsOkA_cons ?_ ?_
                    · intro K vs W hR hD hK
                      have dq28 : vs 28 = .bool false := hD 28 (by decide)
                      clear hD
                      try dsimp only at hK ⊢
                      simp only [Act.put, List.setIfInBounds_toArray, List.set_cons_succ, List.set_cons_zero] at hK
                      generalize vs 28 = vq28 at hK dq28 ⊢
                      subst vq28
                      go_wp2
                      exact hK _ _ rfl (Mod.refl _ _)
                    refine opsOkA_cons ?_ ?_
                    · intro K vs W hR hD hK
                      have dq28 : vs 28 = .bool false := hD 28 (by decide)
                      clear hD
                      try dsimp only at hK ⊢
                      simp only [Act.put, List.setIfInBounds_toArray, List.set_cons_succ, List.set_cons_zero] at hK
                      generalize vs 28 = vq28 at hK dq28 ⊢
                      subst vq28
                      go_wp2
                      exact hK _ _ rfl (Mod.refl _ _)
                    refine opsOkA_cons ?_ ?_
                    · intro K vs W hR hD hK
                      have dq28 : vs 28 = .bool false := hD 28 (by decide)
                      clear hD
                      try dsimp only at hK ⊢
                      simp only [Act.put, List.setIfInBounds_toArray, List.set_cons_succ, List.set_cons_zero] at hK
                      generalize vs 28 = vq28 at hK dq28 ⊢
                      subst vq28
                      go_wp2_with fail
                      exact hK _ _ rfl (Mod.refl _ _)
                    refine opsOkA_cons ?_ ?_
                    · intro K vs W hR hD hK
                      have dq28 : vs 28 = .bool false := hD 28 (by decide)
                      clear hD
                      try dsimp only at hK ⊢
                      simp only [Act.put, List.setIfInBounds_toArray, List.set_cons_succ, List.set_cons_zero] at hK
                      generalize vs 28 = vq28 at hK dq28 ⊢
                      subst vq28
                      go_wp2
                      exact hK _ _ rfl (Mod.refl _ _)
                    refine opsOkA_cons ?_ ?_
                    · intro K vs W hR hD hK
                      have dq13 : vs 13 = .bool false := hD 13 (by decide)
                      have dq28 : vs 28 = .bool false := hD 28 (by decide)
                      have dq33 : vs 33 = undef := hD 33 (by decide)
                      clear hD
                      try dsimp only at hK ⊢
                      simp only [Act.put, List.setIfInBounds_toArray, List.set_cons_succ, List.set_cons_zero] at hK
                      generalize vs 13 = vq13 at hK dq13 ⊢
                      subst vq13
                      generalize vs 28 = vq28 at hK dq28 ⊢
                      subst vq28
                      generalize vs 33 = vq33 at hK dq33 ⊢
                      subst vq33
                      go_wp2
                      exact hK _ _ rfl (Mod.refl _ _)
                    refine opsOkA_cons ?_ ?_
                    · intro K vs W hR hD hK
                      have dq13 : vs 13 = .bool false := hD 13 (by decide)
                      have dq17 : vs 17 = .bool false := hD 17 (by decide)
                      have dq34 : vs 34 = .bool false := hD 34 (by decide)
                      clear hD
                      try dsimp only at hK ⊢
                      simp only [Act.put, List.setIfInBounds_toArray, List.set_cons_succ, List.set_cons_zero] at hK
                      generalize vs 13 = vq13 at hK dq13 ⊢
                      subst vq13
                      generalize vs 17 = vq17 at hK dq17 ⊢
                      subst vq17
                      generalize vs 34 = vq34 at hK dq34 ⊢
                      subst vq34
                      go_wp2
                      exact hK _ _ rfl (Mod.refl _ _)
                    refine opsOkA_cons ?_ ?_
                    · intro K vs W hR hD hK
                      have dq13 : vs 13 = .bool false := hD 13 (by decide)
                      have dq35 : vs 35 = .bool false := hD 35 (by decide)
                      clear hD
                      try dsimp only at hK ⊢
                      simp only [Act.put, List.setIfInBounds_toArray, List.set_cons_succ, List.set_cons_zero] at hK
                      generalize vs 13 = vq13 at hK dq13 ⊢
                      subst vq13
                      generalize vs 35 = vq35 at hK dq35 ⊢
                      subst vq35
                      go_wp2
                      exact hK _ _ rfl (Mod.refl _ _)
                    exact opsOkA_nil
                  · intro vs wq18 hR hF
                    have dq36 : vs 36 = .bool false := hF 36 (by decide)
                    clear hF
                    try dsimp only
                    generalize vs 36 = vq36 at dq36 ⊢
                    subst dq36
                    replace HS := Lib.hid (HSd.out.step (Mod.upF hR))
                    have HRQ := Lib.hid hR
                    have hmd := (Mod.drew (fun _ => False) _).of2 hR
                    have HSO1 := Lib.hid (HSO.out.keep hmd (fun e => e))
                    clear HSO
                    have HSO := HSO1
                    clear HSO1
                    have HUO1 := Lib.hid (HUO.out.keep hmd (fun e => e) (fun e => e))
                    clear HUO
                    have HUO := HUO1
                    clear HUO1
                    clear hmd
                    clear HSd hR
                    have hbba := (HS.out.now).2.2.2.1
                    have qba_0 := hbba.cell 0 rfl
                    have qba_1 := hbba.cell 1 rfl
                    have qba_2 := hbba.cell 2 rfl
                    have lba := hbba.lt
                    clear hbba
                    go_wp2_with fail
                    go_meet
                    exact ⟨rfl, (Mod.drew _ _).of2 HRQ.out⟩
                case neg =>
                  by_cases hhi : (n : Int) ≤ un
                  case pos =>
                    have HCB : Hid (closedB us1 n un = false) := Lib.hid (by unfold closedB; rw [show edge1 n un = false from decide_eq_false (by omega)]; rfl)
                    have ZU : Hid (decide (0 ≤ un) = true) := Lib.hid (decide_eq_true (by omega))
                    have ZN : Hid (decide (un < (n : Int)) = false) := Lib.hid (decide_eq_false (by omega))
                    clear hlow hhi
                    clear qba_0 qba_1 qba_2 lba
                    have HSd := Lib.hid HS.out.drew
                    refine wp_region_inv3 (act := ?actac_r30_1) (Mod (fun _ => False)) (fun i => (ac_r30_1_F n p q ba g1 g2 un AL).getD i (fun _ _ => True)) (fun i => ac_r30_1_D.getD i []) (by kernel_rfl) (by kernel_rfl) (by kernel_rfl) (by kernel_rfl) (fun _ => Mod.refl _ _)
                      (fun _ _ _ h k => h.trans k (fun _ _ e => e) (fun _ _ e => e)) ?hactac_r30_1 (stable_list ?_) ?_ ?_
                    case hactac_r30_1 => intro vs; simp only [putAll, Nat.zero_add, Nat.reduceAdd, Act.put, List.setIfInBounds_toArray, List.set_cons_succ, List.set_cons_zero]; exact rfl
                    · unfold ac_r30_1_F
                      exact stable_cons (stable_val _) <| stable_cons (stable_val _) <| stable_cons (stable_val _) <| stable_cons (stable_val _) <| stable_cons (stable_val _) <| stable_cons (stable_val _) <| stable_cons (stable_val _) <| stable_cons (ShRow.st _) <| stable_cons (stable_val _) <| stable_cons (ShRow.st _) <| stable_cons (stable_val _) <| stable_cons (stable_val _) <| stable_cons (stable_val _) <| stable_cons (stable_val _) <| stable_cons (stable_val _) <| stable_cons (stable_val _) <| stable_cons (stable_val _) <| stable_cons (stable_val _) <| stable_cons (stable_val _) <| stable_cons (stable_val _) <| stable_cons (stable_val _) <| stable_cons (stable_val _) <| stable_cons (stable_val _) <| stable_cons (stable_val _) <| stable_cons (stable_val _) <| stable_cons (stable_val _) <| stable_cons (stable_val _) <| stable_cons (stable_val _) <| stable_cons (stable_val _) <| stable_cons (stable_val _) <| stable_cons (stable_val _) <| stable_cons (stable_val _) <| stable_cons (stable_val _) <| stable_cons (stable_val _) <| stable_cons (stable_val _) <| stable_cons (stable_val _) <| stable_cons (stable_val _) <| stable_nil
                    · refine opsOkA_cons ?_ ?_
                      · intro K vs W hR hD hK
                        clear hD
                        try dsimp only at hK ⊢
                        simp only [Act.put, List.setIfInBounds_toArray, List.set_cons_succ, List.set_cons_zero] at hK
                        go_wp2
                        exact hK _ _ rfl (Mod.refl _ _)
                      refine opsOkA_cons ?_ ?_
                      · intro K vs W hR hD hK
                        have dq0 : vs 0 = .slice (some ⟨g1, 0, none⟩) n n := hD 0 (by decide)
                        clear hD
                        try dsimp only at hK ⊢
                        simp only [Act.put, List.setIfInBounds_toArray, List.set_cons_succ, List.set_cons_zero] at hK
                        generalize vs 0 = vq0 at hK dq0 ⊢
                        subst vq0
                        go_wp2_with fail
                        exact hK _ _ rfl (Mod.refl _ _)
                      refine opsOkA_cons ?_ ?_
                      · intro K vs W hR hD hK
                        clear hD
                        try dsimp only at hK ⊢
                        simp only [Act.put, List.setIfInBounds_toArray, List.set_cons_succ, List.set_cons_zero] at hK
                        go_wp2
                        exact hK _ _ rfl (Mod.refl _ _)
                      refine opsOkA_cons ?_ ?_
                      · intro K vs W hR hD hK
                        have dq2 : vs 2 = .slice (some ⟨g2, 0, none⟩) n n := hD 2 (by decide)
                        clear hD
                        try dsimp only at hK ⊢
                        simp only [Act.put, List.setIfInBounds_toArray, List.set_cons_succ, List.set_cons_zero] at hK
                        generalize vs 2 = vq2 at hK dq2 ⊢
                        subst vq2
                        go_wp2_with fail
                        exact hK _ _ rfl (Mod.refl _ _)
                      refine opsOkA_cons ?_ ?_
                      · intro K vs W hR hD hK
                        have dq1 : vs 1 = .int .i64 (n : Int) := hD 1 (by decide)
                        have dq3 : vs 3 = .int .i64 (n : Int) := hD 3 (by decide)
                        clear hD
                        try dsimp only at hK ⊢
                        simp only [Act.put, List.setIfInBounds_toArray, List.set_cons_succ, List.set_cons_zero] at hK
                        generalize vs 1 = vq1 at hK dq1 ⊢
                        subst vq1
                        generalize vs 3 = vq3 at hK dq3 ⊢
                        subst vq3
                        go_wp2
                        exact hK _ _ rfl (Mod.refl _ _)
                      refine opsOkA_cons ?_ ?_
                      · intro K vs W hR hD hK
                        have dq4 : vs 4 = .bool false := hD 4 (by decide)
                        clear hD
                        try dsimp only at hK ⊢
                        simp only [Act.put, List.setIfInBounds_toArray, List.set_cons_succ, List.set_cons_zero] at hK
                        generalize vs 4 = vq4 at hK dq4 ⊢
                        subst vq4
                        go_wp2
                        exact hK _ _ rfl (Mod.refl _ _)
                      refine opsOkA_cons ?_ ?_
                      · intro K vs W hR hD hK
                        have dq5 : vs 5 = .bool false := hD 5 (by decide)
                        clear hD
                        try dsimp only at hK ⊢
                        simp only [Act.put, List.setIfInBounds_toArray, List.set_cons_succ, List.set_cons_zero] at hK
                        generalize vs 5 = vq5 at hK dq5 ⊢
                        subst vq5
                        go_wp2
                        exact hK _ _ rfl (Mod.refl _ _)
                      refine opsOkA_cons ?_ ?_
                      · intro K vs W hR hD hK
                        have dq5 : vs 5 = .bool false := hD 5 (by decide)
                        have dq6 : vs 6 = .pointer (some ⟨p, 0, none⟩) := hD 6 (by decide)
                        clear hD
                        try dsimp only at hK ⊢
                        simp only [Act.put, List.setIfInBounds_toArray, List.set_cons_succ, List.set_cons_zero] at hK
                        generalize vs 5 = vq5 at hK dq5 ⊢
                        subst vq5
                        generalize vs 6 = vq6 at hK dq6 ⊢
                        subst vq6
                        go_wp2_with (go_at_call 20; refine (all_any p n us1 W (HSO.out.keep ((Mod.drew (fun _ => False) _).of2 hR) (fun e => e))).mono ?_; rintro e' w' ⟨x', rfl, ho', hm'⟩)
                        exact hK _ _ (by rw [HAL.out] at ho'; exact shrow_own ho') hm'
                      refine opsOkA_cons ?_ ?_
                      · intro K vs W hR hD hK
                        have dq5 : vs 5 = .bool false := hD 5 (by decide)
                        clear hD
                        try dsimp only at hK ⊢
                        simp only [Act.put, List.setIfInBounds_toArray, List.set_cons_succ, List.set_cons_zero] at hK
                        generalize vs 5 = vq5 at hK dq5 ⊢
                        subst vq5
                        go_wp2
                        exact hK _ _ rfl (Mod.refl _ _)
                      refine opsOkA_cons ?_ ?_
                      · intro K vs W hR hD hK
                        have dq5 : vs 5 = .bool false := hD 5 (by decide)
                        have dq8 : vs 8 = .pointer (some ⟨q, 0, none⟩) := hD 8 (by decide)
                        clear hD
                        try dsimp only at hK ⊢
                        simp only [Act.put, List.setIfInBounds_toArray, List.set_cons_succ, List.set_cons_zero] at hK
                        generalize vs 5 = vq5 at hK dq5 ⊢
                        subst vq5
                        generalize vs 8 = vq8 at hK dq8 ⊢
                        subst vq8
                        go_wp2_with (go_at_call 21; refine (uall_any q g n (us1.take n) W (HUO.out.keep ((Mod.drew (fun _ => False) _).of2 hR) (fun e => e) (fun e => e))).mono ?_; rintro e' w' ⟨x', rfl, ho', hm'⟩)
                        exact hK _ _ (by rw [allK_take, HAL.out] at ho'; exact shrow_own ho') hm'
                      refine opsOkA_cons ?_ ?_
                      · intro K vs W hR hD hK
                        have dq5 : vs 5 = .bool false := hD 5 (by decide)
                        have dq7 : (ShRow AL) (vs 7) W := hD 7 (by decide)
                        have dq9 : (ShRow AL) (vs 9) W := hD 9 (by decide)
                        clear hD
                        try dsimp only at hK ⊢
                        simp only [Act.put, List.setIfInBounds_toArray, List.set_cons_succ, List.set_cons_zero] at hK
                        generalize vs 5 = vq5 at hK dq5 ⊢
                        subst vq5
                        generalize vs 7 = vq7 at hK dq7 ⊢
                        generalize vs 9 = vq9 at hK dq9 ⊢
                        obtain ⟨ax7, cx7, rfl, hx7⟩ := dq7
                        obtain ⟨ax9, cx9, rfl, hx9⟩ := dq9
                        go_wp2_with (go_at_call 19; refine (same_eq W ax7 AL.length cx7 AL rfl hx7 ax9 cx9 hx9 (by have := HAB.out; omega)).mono ?_; rintro e' w' ⟨rfl, hm'⟩)
                        exact hK _ _ rfl hm'
                      refine opsOkA_cons ?_ ?_
                      · intro K vs W hR hD hK
                        have dq5 : vs 5 = .bool false := hD 5 (by decide)
                        have dq10 : vs 10 = .bool true := hD 10 (by decide)
                        clear hD
                        try dsimp only at hK ⊢
                        simp only [Act.put, List.setIfInBounds_toArray, List.set_cons_succ, List.set_cons_zero] at hK
                        generalize vs 5 = vq5 at hK dq5 ⊢
                        subst vq5
                        generalize vs 10 = vq10 at hK dq10 ⊢
                        subst vq10
                        go_wp2
                        exact hK _ _ rfl (Mod.refl _ _)
                      refine opsOkA_cons ?_ ?_
                      · intro K vs W hR hD hK
                        have dq5 : vs 5 = .bool false := hD 5 (by decide)
                        have dq11 : vs 11 = .bool false := hD 11 (by decide)
                        clear hD
                        try dsimp only at hK ⊢
                        simp only [Act.put, List.setIfInBounds_toArray, List.set_cons_succ, List.set_cons_zero] at hK
                        generalize vs 5 = vq5 at hK dq5 ⊢
                        subst vq5
                        generalize vs 11 = vq11 at hK dq11 ⊢
                        subst vq11
                        go_wp2
                        exact hK _ _ rfl (Mod.refl _ _)
                      refine opsOkA_cons ?_ ?_
                      · intro K vs W hR hD hK
                        have dq12 : vs 12 = .bool false := hD 12 (by decide)
                        clear hD
                        try dsimp only at hK ⊢
                        simp only [Act.put, List.setIfInBounds_toArray, List.set_cons_succ, List.set_cons_zero] at hK
                        generalize vs 12 = vq12 at hK dq12 ⊢
                        subst vq12
                        go_wp2
                        exact hK _ _ rfl (Mod.refl _ _)
                      refine opsOkA_cons ?_ ?_
                      · intro K vs W hR hD hK
                        have dq13 : vs 13 = .bool false := hD 13 (by decide)
                        clear hD
                        try dsimp only at hK ⊢
                        simp only [Act.put, List.setIfInBounds_toArray, List.set_cons_succ, List.set_cons_zero] at hK
                        generalize vs 13 = vq13 at hK dq13 ⊢
                        subst vq13
                        go_wp2
                        exact hK _ _ rfl (Mod.refl _ _)
                      refine opsOkA_cons ?_ ?_
                      · intro K vs W hR hD hK
                        have dq13 : vs 13 = .bool false := hD 13 (by decide)
                        clear hD
                        try dsimp only at hK ⊢
                        simp only [Act.put, List.setIfInBounds_toArray, List.set_cons_succ, List.set_cons_zero] at hK
                        generalize vs 13 = vq13 at hK dq13 ⊢
                        subst vq13
                        go_wp2
                        exact hK _ _ rfl (Mod.refl _ _)
                      refine opsOkA_cons ?_ ?_
                      · intro K vs W hR hD hK
                        have dq13 : vs 13 = .bool false := hD 13 (by decide)
                        have dq15 : vs 15 = .pointer (some ⟨ba, 1, none⟩) := hD 15 (by decide)
                        clear hD
                        try dsimp only at hK ⊢
                        simp only [Act.put, List.setIfInBounds_toArray, List.set_cons_succ, List.set_cons_zero] at hK
                        generalize vs 13 = vq13 at hK dq13 ⊢
                        subst vq13
                        generalize vs 15 = vq15 at hK dq15 ⊢
                        subst vq15
                        have q0 := ((HSd.out.at ((Mod.upF hR))).2.2.2.1).cell 1 rfl
                        go_wp2
                        exact hK _ _ rfl (Mod.refl _ _)
                      refine opsOkA_cons ?_ ?_
                      · intro K vs W hR hD hK
                        have dq13 : vs 13 = .bool false := hD 13 (by decide)
                        have dq14 : vs 14 = .pointer (some ⟨p, 0, none⟩) := hD 14 (by decide)
                        have dq16 : vs 16 = .int .i64 un := hD 16 (by decide)
                        clear hD
                        try dsimp only at hK ⊢
                        simp only [Act.put, List.setIfInBounds_toArray, List.set_cons_succ, List.set_cons_zero] at hK
                        generalize vs 13 = vq13 at hK dq13 ⊢
                        subst vq13
                        generalize vs 14 = vq14 at hK dq14 ⊢
                        subst vq14
                        generalize vs 16 = vq16 at hK dq16 ⊢
                        subst vq16
                        go_wp2_with (go_at_call 22; refine (closed_any p n us1 W (HSO.out.keep ((Mod.drew (fun _ => False) _).of2 hR) (fun e => e)) un).mono ?_; rintro e' w' ⟨rfl, hm'⟩; rw [HCB.out])
                        exact hK _ _ rfl hm'
                      refine opsOkA_cons ?_ ?_
                      · intro K vs W hR hD hK
                        have dq13 : vs 13 = .bool false := hD 13 (by decide)
                        clear hD
                        try dsimp only at hK ⊢
                        simp only [Act.put, List.setIfInBounds_toArray, List.set_cons_succ, List.set_cons_zero] at hK
                        generalize vs 13 = vq13 at hK dq13 ⊢
                        subst vq13
                        go_wp2
                        exact hK _ _ rfl (Mod.refl _ _)
                      refine opsOkA_cons ?_ ?_
                      · intro K vs W hR hD hK
                        have dq13 : vs 13 = .bool false := hD 13 (by decide)
                        have dq18 : vs 18 = .pointer (some ⟨ba, 1, none⟩) := hD 18 (by decide)
                        clear hD
                        try dsimp only at hK ⊢
                        simp only [Act.put, List.setIfInBounds_toArray, List.set_cons_succ, List.set_cons_zero] at hK
                        generalize vs 13 = vq13 at hK dq13 ⊢
                        subst vq13
                        generalize vs 18 = vq18 at hK dq18 ⊢
                        subst vq18
                        have q0 := ((HSd.out.at ((Mod.upF hR))).2.2.2.1).cell 1 rfl
                        go_wp2
                        exact hK _ _ rfl (Mod.refl _ _)
                      refine opsOkA_cons ?_ ?_
                      · intro K vs W hR hD hK
                        have dq13 : vs 13 = .bool false := hD 13 (by decide)
                        have dq19 : vs 19 = .int .i64 un := hD 19 (by decide)
                        clear hD
                        try dsimp only at hK ⊢
                        simp only [Act.put, List.setIfInBounds_toArray, List.set_cons_succ, List.set_cons_zero] at hK
                        generalize vs 13 = vq13 at hK dq13 ⊢
                        subst vq13
                        generalize vs 19 = vq19 at hK dq19 ⊢
                        subst vq19
                        have zz := ZU.out
                        go_wp2
                        exact hK _ _ rfl (Mod.refl _ _)
                      refine opsOkA_cons ?_ ?_
                      · intro K vs W hR hD hK
                        have dq13 : vs 13 = .bool false := hD 13 (by decide)
                        have dq20 : vs 20 = .bool true := hD 20 (by decide)
                        clear hD
                        try dsimp only at hK ⊢
                        simp only [Act.put, List.setIfInBounds_toArray, List.set_cons_succ, List.set_cons_zero] at hK
                        generalize vs 13 = vq13 at hK dq13 ⊢
                        subst vq13
                        generalize vs 20 = vq20 at hK dq20 ⊢
                        subst vq20
                        go_wp2
                        exact hK _ _ rfl (Mod.refl _ _)
                      refine opsOkA_cons ?_ ?_
                      · intro K vs W hR hD hK
                        have dq21 : vs 21 = .bool true := hD 21 (by decide)
                        clear hD
                        try dsimp only at hK ⊢
                        simp only [Act.put, List.setIfInBounds_toArray, List.set_cons_succ, List.set_cons_zero] at hK
                        generalize vs 21 = vq21 at hK dq21 ⊢
                        subst vq21
                        go_wp2
                        exact hK _ _ rfl (Mod.refl _ _)
                      refine opsOkA_cons ?_ ?_
                      · intro K vs W hR hD hK
                        have dq21 : vs 21 = .bool true := hD 21 (by decide)
                        have dq22 : vs 22 = .pointer (some ⟨ba, 1, none⟩) := hD 22 (by decide)
                        clear hD
                        try dsimp only at hK ⊢
                        simp only [Act.put, List.setIfInBounds_toArray, List.set_cons_succ, List.set_cons_zero] at hK
                        generalize vs 21 = vq21 at hK dq21 ⊢
                        subst vq21
                        generalize vs 22 = vq22 at hK dq22 ⊢
                        subst vq22
                        have q0 := ((HSd.out.at ((Mod.upF hR))).2.2.2.1).cell 1 rfl
                        go_wp2
                        exact hK _ _ rfl (Mod.refl _ _)
                      refine opsOkA_cons ?_ ?_
                      · intro K vs W hR hD hK
                        have dq21 : vs 21 = .bool true := hD 21 (by decide)
                        clear hD
                        try dsimp only at hK ⊢
                        simp only [Act.put, List.setIfInBounds_toArray, List.set_cons_succ, List.set_cons_zero] at hK
                        generalize vs 21 = vq21 at hK dq21 ⊢
                        subst vq21
                        go_wp2
                        exact hK _ _ rfl (Mod.refl _ _)
                      refine opsOkA_cons ?_ ?_
                      · intro K vs W hR hD hK
                        have dq21 : vs 21 = .bool true := hD 21 (by decide)
                        have dq24 : vs 24 = .slice (some ⟨g2, 0, none⟩) n n := hD 24 (by decide)
                        clear hD
                        try dsimp only at hK ⊢
                        simp only [Act.put, List.setIfInBounds_toArray, List.set_cons_succ, List.set_cons_zero] at hK
                        generalize vs 21 = vq21 at hK dq21 ⊢
                        subst vq21
                        generalize vs 24 = vq24 at hK dq24 ⊢
                        subst vq24
                        go_wp2_with fail
                        exact hK _ _ rfl (Mod.refl _ _)
                      refine opsOkA_cons ?_ ?_
                      · intro K vs W hR hD hK
                        have dq21 : vs 21 = .bool true := hD 21 (by decide)
                        have dq23 : vs 23 = .int .i64 un := hD 23 (by decide)
                        have dq25 : vs 25 = .int .i64 (n : Int) := hD 25 (by decide)
                        clear hD
                        try dsimp only at hK ⊢
                        simp only [Act.put, List.setIfInBounds_toArray, List.set_cons_succ, List.set_cons_zero] at hK
                        generalize vs 21 = vq21 at hK dq21 ⊢
                        subst vq21
                        generalize vs 23 = vq23 at hK dq23 ⊢
                        subst vq23
                        generalize vs 25 = vq25 at hK dq25 ⊢
                        subst vq25
                        have zy := ZN.out
                        go_wp2
                        exact hK _ _ rfl (Mod.refl _ _)
                      refine opsOkA_cons ?_ ?_
                      · intro K vs W hR hD hK
                        have dq13 : vs 13 = .bool false := hD 13 (by decide)
                        have dq21 : vs 21 = .bool true := hD 21 (by decide)
                        have dq26 : vs 26 = .bool false := hD 26 (by decide)
                        clear hD
                        try dsimp only at hK ⊢
                        simp only [Act.put, List.setIfInBounds_toArray, List.set_cons_succ, List.set_cons_zero] at hK
                        generalize vs 13 = vq13 at hK dq13 ⊢
                        subst vq13
                        generalize vs 21 = vq21 at hK dq21 ⊢
                        subst vq21
                        generalize vs 26 = vq26 at hK dq26 ⊢
                        subst vq26
                        go_wp2
                        exact hK _ _ rfl (Mod.refl _ _)
                      refine opsOkA_cons ?_ ?_
                      · intro K vs W hR hD hK
                        have dq13 : vs 13 = .bool false := hD 13 (by decide)
                        have dq27 : vs 27 = .bool false := hD 27 (by decide)
                        clear hD
                        try dsimp only at hK ⊢
                        simp only [Act.put, List.setIfInBounds_toArray, List.set_cons_succ, List.set_cons_zero] at hK
                        generalize vs 13 = vq13 at hK dq13 ⊢
                        subst vq13
                        generalize vs 27 = vq27 at hK dq27 ⊢
                        subst vq27
                        go_wp2
                        exact hK _ _ rfl (Mod.refl _ _)
                      refine opsOkA_cons ?_ ?_
                      · intro K vs W hR hD hK
                        have dq28 : vs 28 = .bool false := hD 28 (by decide)
                        clear hD
                        try dsimp only at hK ⊢
                        simp only [Act.put, List.setIfInBounds_toArray, List.set_cons_succ, List.set_cons_zero] at hK
                        generalize vs 28 = vq28 at hK dq28 ⊢
                        subst vq28
                        go_wp2
                        exact hK _ _ rfl (Mod.refl _ _)
                      refine opsOkA_cons ?_ ?_
                      · intro K vs W hR hD hK
                        have dq28 : vs 28 = .bool false := hD 28 (by decide)
                        clear hD
                        try dsimp only at hK ⊢
                        simp only [Act.put, List.setIfInBounds_toArray, List.set_cons_succ, List.set_cons_zero] at hK
                        generalize vs 28 = vq28 at hK dq28 ⊢
                        subst vq28
                        go_wp2
                        exact hK _ _ rfl (Mod.refl _ _)
                      refine opsOkA_cons ?_ ?_
                      · intro K vs W hR hD hK
                        have dq28 : vs 28 = .bool false := hD 28 (by decide)
                        clear hD
                        try dsimp only at hK ⊢
                        simp only [Act.put, List.setIfInBounds_toArray, List.set_cons_succ, List.set_cons_zero] at hK
                        generalize vs 28 = vq28 at hK dq28 ⊢
                        subst vq28
                        go_wp2
                        exact hK _ _ rfl (Mod.refl _ _)
                      refine opsOkA_cons ?_ ?_
                      · intro K vs W hR hD hK
                        have dq28 : vs 28 = .bool false := hD 28 (by decide)
                        clear hD
                        try dsimp only at hK ⊢
                        simp only [Act.put, List.setIfInBounds_toArray, List.set_cons_succ, List.set_cons_zero] at hK
                        generalize vs 28 = vq28 at hK dq28 ⊢
                        subst vq28
                        go_wp2_with fail
                        exact hK _ _ rfl (Mod.refl _ _)
                      refine opsOkA_cons ?_ ?_
                      · intro K vs W hR hD hK
                        have dq28 : vs 28 = .bool false := hD 28 (by decide)
                        clear hD
                        try dsimp only at hK ⊢
                        simp only [Act.put, List.setIfInBounds_toArray, List.set_cons_succ, List.set_cons_zero] at hK
                        generalize vs 28 = vq28 at hK dq28 ⊢
                        subst vq28
                        go_wp2
                        exact hK _ _ rfl (Mod.refl _ _)
                      refine opsOkA_cons ?_ ?_
                      · intro K vs W hR hD hK
                        have dq13 : vs 13 = .bool false := hD 13 (by decide)
                        have dq28 : vs 28 = .bool false := hD 28 (by decide)
                        have dq33 : vs 33 = undef := hD 33 (by decide)
                        clear hD
                        try dsimp only at hK ⊢
                        simp only [Act.put, List.setIfInBounds_toArray, List.set_cons_succ, List.set_cons_zero] at hK
                        generalize vs 13 = vq13 at hK dq13 ⊢
                        subst vq13
                        generalize vs 28 = vq28 at hK dq28 ⊢
                        subst vq28
                        generalize vs 33 = vq33 at hK dq33 ⊢
                        subst vq33
                        go_wp2
                        exact hK _ _ rfl (Mod.refl _ _)
                      refine opsOkA_cons ?_ ?_
                      · intro K vs W hR hD hK
                        have dq13 : vs 13 = .bool false := hD 13 (by decide)
                        have dq17 : vs 17 = .bool false := hD 17 (by decide)
                        have dq34 : vs 34 = .bool false := hD 34 (by decide)
                        clear hD
                        try dsimp only at hK ⊢
                        simp only [Act.put, List.setIfInBounds_toArray, List.set_cons_succ, List.set_cons_zero] at hK
                        generalize vs 13 = vq13 at hK dq13 ⊢
                        subst vq13
                        generalize vs 17 = vq17 at hK dq17 ⊢
                        subst vq17
                        generalize vs 34 = vq34 at hK dq34 ⊢
                        subst vq34
                        go_wp2
                        exact hK _ _ rfl (Mod.refl _ _)
                      refine opsOkA_cons ?_ ?_
                      · intro K vs W hR hD hK
                        have dq13 : vs 13 = .bool false := hD 13 (by decide)
                        have dq35 : vs 35 = .bool false := hD 35 (by decide)
                        clear hD
                        try dsimp only at hK ⊢
                        simp only [Act.put, List.setIfInBounds_toArray, List.set_cons_succ, List.set_cons_zero] at hK
                        generalize vs 13 = vq13 at hK dq13 ⊢
                        subst vq13
                        generalize vs 35 = vq35 at hK dq35 ⊢
                        subst vq35
                        go_wp2
                        exact hK _ _ rfl (Mod.refl _ _)
                      exact opsOkA_nil
                    · intro vs wq19 hR hF
                      have dq36 : vs 36 = .bool false := hF 36 (by decide)
                      clear hF
                      try dsimp only
                      generalize vs 36 = vq36 at dq36 ⊢
                      subst dq36
                      replace HS := Lib.hid (HSd.out.step (Mod.upF hR))
                      have HRQ := Lib.hid hR
                      have hmd := (Mod.drew (fun _ => False) _).of2 hR
                      have HSO1 := Lib.hid (HSO.out.keep hmd (fun e => e))
                      clear HSO
                      have HSO := HSO1
                      clear HSO1
                      have HUO1 := Lib.hid (HUO.out.keep hmd (fun e => e) (fun e => e))
                      clear HUO
                      have HUO := HUO1
                      clear HUO1
                      clear hmd
                      clear HSd hR
                      have hbba := (HS.out.now).2.2.2.1
                      have qba_0 := hbba.cell 0 rfl
                      have qba_1 := hbba.cell 1 rfl
                      have qba_2 := hbba.cell 2 rfl
                      have lba := hbba.lt
                      clear hbba
                      go_wp2_with fail
                      go_meet
                      exact ⟨rfl, (Mod.drew _ _).of2 HRQ.out⟩
                  case neg =>
                    obtain ⟨ku, hku⟩ := Int.eq_ofNat_of_zero_le (show 0 ≤ un by omega)
                    have hkn : ku < n := by omega
                    have HKU := Lib.hid hku
                    clear hku
                    obtain ⟨bv, HBQ0⟩ : ∃ qz, (us1.getD ku 0 != 0) = qz := ⟨_, rfl⟩
                    have HBQ := Lib.hid HBQ0
                    clear HBQ0
                    have HBV : Hid ((maskL us1 n)[ku]? = some bv) := Lib.hid (by rw [← HBQ.out]; simp [maskL, hkn])
                    have HCB : Hid (closedB us1 n un = bv) := Lib.hid (by rw [HKU.out]; unfold closedB; rw [show edge1 n (ku : Int) = true from decide_eq_true ⟨by omega, by omega⟩, Bool.true_and]; exact HBQ.out)
                    have ZU : Hid (decide (0 ≤ un) = true) := Lib.hid (decide_eq_true (by omega))
                    have ZN : Hid (decide (un < (n : Int)) = true) := Lib.hid (decide_eq_true (by omega))
                    have HIg2 : Hid (∀ wx, (Instr.indexAt 40 (.slice (some ⟨g2, 0, none⟩) n n) (.int .i64 un)).run Try.prog wx = .ok (.pointer (some ⟨g2, ku, none⟩)) wx) := Lib.hid (fun wx => by have h := run_indexS (P := Try.prog) wx 40 4 iB 1 Try.underlying40 hiB hsB (some ⟨g2, 0, none⟩) n n ku hkn (by simp); rwa [show elemA (some ⟨g2, 0, none⟩) ku 1 = ⟨g2, ku, none⟩ by unfold elemA; rw [Option.getD_some, Addr.add_lit]; simp, ← HKU.out] at h)
                    have hcell : wq17.cell? ⟨g2, ku, none⟩ = some (.bool bv) := by have h1 := ((HS.out.now).1).elem (j := ku) (u := .bool bv) (by rw [List.getElem?_map, HBV.out]; rfl); rwa [show elemA (some ⟨g2, 0, none⟩) ku 1 = ⟨g2, ku, none⟩ by unfold elemA; rw [Option.getD_some, Addr.add_lit]; simp] at h1
                    replace HS := Lib.hid (((show EvF (fun k => k = p ∨ k = g) (fun W => W.cell? ⟨g2, ku, none⟩ = some (.bool bv)) wq17 from fun W mW => mW.cell hcell (fun e => by rcases e with e | e; exact hg2p e; exact hg2g e))).and HS.out)
                    clear hcell
                    clear hlow hhi
                    clear qba_0 qba_1 qba_2 lba
                    have HSd := Lib.hid HS.out.drew
                    refine wp_region_inv3 (act := ?actac_r30_2) (Mod (fun _ => False)) (fun i => (ac_r30_2_F n p q ba g1 g2 ku un bv AL).getD i (fun _ _ => True)) (fun i => ac_r30_2_D.getD i []) (by kernel_rfl) (by kernel_rfl) (by kernel_rfl) (by kernel_rfl) (fun _ => Mod.refl _ _)
                      (fun _ _ _ h k => h.trans k (fun _ _ e => e) (fun _ _ e => e)) ?hactac_r30_2 (stable_list ?_) ?_ ?_
                    case hactac_r30_2 => intro vs; simp only [putAll, Nat.zero_add, Nat.reduceAdd, Act.put, List.setIfInBounds_toArray, List.set_cons_succ, List.set_cons_zero]; exact rfl
                    · unfold ac_r30_2_F
                      exact stable_cons (stable_val _) <| stable_cons (stable_val _) <| stable_cons (stable_val _) <| stable_cons (stable_val _) <| stable_cons (stable_val _) <| stable_cons (stable_val _) <| stable_cons (stable_val _) <| stable_cons (ShRow.st _) <| stable_cons (stable_val _) <| stable_cons (ShRow.st _) <| stable_cons (stable_val _) <| stable_cons (stable_val _) <| stable_cons (stable_val _) <| stable_cons (stable_val _) <| stable_cons (stable_val _) <| stable_cons (stable_val _) <| stable_cons (stable_val _) <| stable_cons (stable_val _) <| stable_cons (stable_val _) <| stable_cons (stable_val _) <| stable_cons (stable_val _) <| stable_cons (stable_val _) <| stable_cons (stable_val _) <| stable_cons (stable_val _) <| stable_cons (stable_val _) <| stable_cons (stable_val _) <| stable_cons (stable_val _) <| stable_cons (stable_val _) <| stable_cons (stable_val _) <| stable_cons (stable_val _) <| stable_cons (stable_val _) <| stable_cons (stable_val _) <| stable_cons (stable_val _) <| stable_cons (stable_val _) <| stable_cons (stable_val _) <| stable_cons (stable_val _) <| stable_cons (stable_val _) <| stable_nil
                    · refine opsOkA_cons ?_ ?_
                      · intro K vs W hR hD hK
                        clear hD
                        try dsimp only at hK ⊢
                        simp only [Act.put, List.setIfInBounds_toArray, List.set_cons_succ, List.set_cons_zero] at hK
                        go_wp2
                        exact hK _ _ rfl (Mod.refl _ _)
                      refine opsOkA_cons ?_ ?_
                      · intro K vs W hR hD hK
                        have dq0 : vs 0 = .slice (some ⟨g1, 0, none⟩) n n := hD 0 (by decide)
                        clear hD
                        try dsimp only at hK ⊢
                        simp only [Act.put, List.setIfInBounds_toArray, List.set_cons_succ, List.set_cons_zero] at hK
                        generalize vs 0 = vq0 at hK dq0 ⊢
                        subst vq0
                        go_wp2_with fail
                        exact hK _ _ rfl (Mod.refl _ _)
                      refine opsOkA_cons ?_ ?_
                      · intro K vs W hR hD hK
                        clear hD
                        try dsimp only at hK ⊢
                        simp only [Act.put, List.setIfInBounds_toArray, List.set_cons_succ, List.set_cons_zero] at hK
                        go_wp2
                        exact hK _ _ rfl (Mod.refl _ _)
                      refine opsOkA_cons ?_ ?_
                      · intro K vs W hR hD hK
                        have dq2 : vs 2 = .slice (some ⟨g2, 0, none⟩) n n := hD 2 (by decide)
                        clear hD
                        try dsimp only at hK ⊢
                        simp only [Act.put, List.setIfInBounds_toArray, List.set_cons_succ, List.set_cons_zero] at hK
                        generalize vs 2 = vq2 at hK dq2 ⊢
                        subst vq2
                        go_wp2_with fail
                        exact hK _ _ rfl (Mod.refl _ _)
                      refine opsOkA_cons ?_ ?_
                      · intro K vs W hR hD hK
                        have dq1 : vs 1 = .int .i64 (n : Int) := hD 1 (by decide)
                        have dq3 : vs 3 = .int .i64 (n : Int) := hD 3 (by decide)
                        clear hD
                        try dsimp only at hK ⊢
                        simp only [Act.put, List.setIfInBounds_toArray, List.set_cons_succ, List.set_cons_zero] at hK
                        generalize vs 1 = vq1 at hK dq1 ⊢
                        subst vq1
                        generalize vs 3 = vq3 at hK dq3 ⊢
                        subst vq3
                        go_wp2
                        exact hK _ _ rfl (Mod.refl _ _)
                      refine opsOkA_cons ?_ ?_
                      · intro K vs W hR hD hK
                        have dq4 : vs 4 = .bool false := hD 4 (by decide)
                        clear hD
                        try dsimp only at hK ⊢
                        simp only [Act.put, List.setIfInBounds_toArray, List.set_cons_succ, List.set_cons_zero] at hK
                        generalize vs 4 = vq4 at hK dq4 ⊢
                        subst vq4
                        go_wp2
                        exact hK _ _ rfl (Mod.refl _ _)
                      refine opsOkA_cons ?_ ?_
                      · intro K vs W hR hD hK
                        have dq5 : vs 5 = .bool false := hD 5 (by decide)
                        clear hD
                        try dsimp only at hK ⊢
                        simp only [Act.put, List.setIfInBounds_toArray, List.set_cons_succ, List.set_cons_zero] at hK
                        generalize vs 5 = vq5 at hK dq5 ⊢
                        subst vq5
                        go_wp2
                        exact hK _ _ rfl (Mod.refl _ _)
                      refine opsOkA_cons ?_ ?_
                      · intro K vs W hR hD hK
                        have dq5 : vs 5 = .bool false := hD 5 (by decide)
                        have dq6 : vs 6 = .pointer (some ⟨p, 0, none⟩) := hD 6 (by decide)
                        clear hD
                        try dsimp only at hK ⊢
                        simp only [Act.put, List.setIfInBounds_toArray, List.set_cons_succ, List.set_cons_zero] at hK
                        generalize vs 5 = vq5 at hK dq5 ⊢
                        subst vq5
                        generalize vs 6 = vq6 at hK dq6 ⊢
                        subst vq6
                        go_wp2_with (go_at_call 20; refine (all_any p n us1 W (HSO.out.keep ((Mod.drew (fun _ => False) _).of2 hR) (fun e => e))).mono ?_; rintro e' w' ⟨x', rfl, ho', hm'⟩)
                        exact hK _ _ (by rw [HAL.out] at ho'; exact shrow_own ho') hm'
                      refine opsOkA_cons ?_ ?_
                      · intro K vs W hR hD hK
                        have dq5 : vs 5 = .bool false := hD 5 (by decide)
                        clear hD
                        try dsimp only at hK ⊢
                        simp only [Act.put, List.setIfInBounds_toArray, List.set_cons_succ, List.set_cons_zero] at hK
                        generalize vs 5 = vq5 at hK dq5 ⊢
                        subst vq5
                        go_wp2
                        exact hK _ _ rfl (Mod.refl _ _)
                      refine opsOkA_cons ?_ ?_
                      · intro K vs W hR hD hK
                        have dq5 : vs 5 = .bool false := hD 5 (by decide)
                        have dq8 : vs 8 = .pointer (some ⟨q, 0, none⟩) := hD 8 (by decide)
                        clear hD
                        try dsimp only at hK ⊢
                        simp only [Act.put, List.setIfInBounds_toArray, List.set_cons_succ, List.set_cons_zero] at hK
                        generalize vs 5 = vq5 at hK dq5 ⊢
                        subst vq5
                        generalize vs 8 = vq8 at hK dq8 ⊢
                        subst vq8
                        go_wp2_with (go_at_call 21; refine (uall_any q g n (us1.take n) W (HUO.out.keep ((Mod.drew (fun _ => False) _).of2 hR) (fun e => e) (fun e => e))).mono ?_; rintro e' w' ⟨x', rfl, ho', hm'⟩)
                        exact hK _ _ (by rw [allK_take, HAL.out] at ho'; exact shrow_own ho') hm'
                      refine opsOkA_cons ?_ ?_
                      · intro K vs W hR hD hK
                        have dq5 : vs 5 = .bool false := hD 5 (by decide)
                        have dq7 : (ShRow AL) (vs 7) W := hD 7 (by decide)
                        have dq9 : (ShRow AL) (vs 9) W := hD 9 (by decide)
                        clear hD
                        try dsimp only at hK ⊢
                        simp only [Act.put, List.setIfInBounds_toArray, List.set_cons_succ, List.set_cons_zero] at hK
                        generalize vs 5 = vq5 at hK dq5 ⊢
                        subst vq5
                        generalize vs 7 = vq7 at hK dq7 ⊢
                        generalize vs 9 = vq9 at hK dq9 ⊢
                        obtain ⟨ax7, cx7, rfl, hx7⟩ := dq7
                        obtain ⟨ax9, cx9, rfl, hx9⟩ := dq9
                        go_wp2_with (go_at_call 19; refine (same_eq W ax7 AL.length cx7 AL rfl hx7 ax9 cx9 hx9 (by have := HAB.out; omega)).mono ?_; rintro e' w' ⟨rfl, hm'⟩)
                        exact hK _ _ rfl hm'
                      refine opsOkA_cons ?_ ?_
                      · intro K vs W hR hD hK
                        have dq5 : vs 5 = .bool false := hD 5 (by decide)
                        have dq10 : vs 10 = .bool true := hD 10 (by decide)
                        clear hD
                        try dsimp only at hK ⊢
                        simp only [Act.put, List.setIfInBounds_toArray, List.set_cons_succ, List.set_cons_zero] at hK
                        generalize vs 5 = vq5 at hK dq5 ⊢
                        subst vq5
                        generalize vs 10 = vq10 at hK dq10 ⊢
                        subst vq10
                        go_wp2
                        exact hK _ _ rfl (Mod.refl _ _)
                      refine opsOkA_cons ?_ ?_
                      · intro K vs W hR hD hK
                        have dq5 : vs 5 = .bool false := hD 5 (by decide)
                        have dq11 : vs 11 = .bool false := hD 11 (by decide)
                        clear hD
                        try dsimp only at hK ⊢
                        simp only [Act.put, List.setIfInBounds_toArray, List.set_cons_succ, List.set_cons_zero] at hK
                        generalize vs 5 = vq5 at hK dq5 ⊢
                        subst vq5
                        generalize vs 11 = vq11 at hK dq11 ⊢
                        subst vq11
                        go_wp2
                        exact hK _ _ rfl (Mod.refl _ _)
                      refine opsOkA_cons ?_ ?_
                      · intro K vs W hR hD hK
                        have dq12 : vs 12 = .bool false := hD 12 (by decide)
                        clear hD
                        try dsimp only at hK ⊢
                        simp only [Act.put, List.setIfInBounds_toArray, List.set_cons_succ, List.set_cons_zero] at hK
                        generalize vs 12 = vq12 at hK dq12 ⊢
                        subst vq12
                        go_wp2
                        exact hK _ _ rfl (Mod.refl _ _)
                      refine opsOkA_cons ?_ ?_
                      · intro K vs W hR hD hK
                        have dq13 : vs 13 = .bool false := hD 13 (by decide)
                        clear hD
                        try dsimp only at hK ⊢
                        simp only [Act.put, List.setIfInBounds_toArray, List.set_cons_succ, List.set_cons_zero] at hK
                        generalize vs 13 = vq13 at hK dq13 ⊢
                        subst vq13
                        go_wp2
                        exact hK _ _ rfl (Mod.refl _ _)
                      refine opsOkA_cons ?_ ?_
                      · intro K vs W hR hD hK
                        have dq13 : vs 13 = .bool false := hD 13 (by decide)
                        clear hD
                        try dsimp only at hK ⊢
                        simp only [Act.put, List.setIfInBounds_toArray, List.set_cons_succ, List.set_cons_zero] at hK
                        generalize vs 13 = vq13 at hK dq13 ⊢
                        subst vq13
                        go_wp2
                        exact hK _ _ rfl (Mod.refl _ _)
                      refine opsOkA_cons ?_ ?_
                      · intro K vs W hR hD hK
                        have dq13 : vs 13 = .bool false := hD 13 (by decide)
                        have dq15 : vs 15 = .pointer (some ⟨ba, 1, none⟩) := hD 15 (by decide)
                        clear hD
                        try dsimp only at hK ⊢
                        simp only [Act.put, List.setIfInBounds_toArray, List.set_cons_succ, List.set_cons_zero] at hK
                        generalize vs 13 = vq13 at hK dq13 ⊢
                        subst vq13
                        generalize vs 15 = vq15 at hK dq15 ⊢
                        subst vq15
                        have q0 := ((HSd.out.at ((Mod.upF hR))).2.2.2.2.1).cell 1 rfl
                        go_wp2
                        exact hK _ _ rfl (Mod.refl _ _)
                      refine opsOkA_cons ?_ ?_
                      · intro K vs W hR hD hK
                        have dq13 : vs 13 = .bool false := hD 13 (by decide)
                        have dq14 : vs 14 = .pointer (some ⟨p, 0, none⟩) := hD 14 (by decide)
                        have dq16 : vs 16 = .int .i64 un := hD 16 (by decide)
                        clear hD
                        try dsimp only at hK ⊢
                        simp only [Act.put, List.setIfInBounds_toArray, List.set_cons_succ, List.set_cons_zero] at hK
                        generalize vs 13 = vq13 at hK dq13 ⊢
                        subst vq13
                        generalize vs 14 = vq14 at hK dq14 ⊢
                        subst vq14
                        generalize vs 16 = vq16 at hK dq16 ⊢
                        subst vq16
                        go_wp2_with (go_at_call 22; refine (closed_any p n us1 W (HSO.out.keep ((Mod.drew (fun _ => False) _).of2 hR) (fun e => e)) un).mono ?_; rintro e' w' ⟨rfl, hm'⟩; rw [HCB.out])
                        exact hK _ _ rfl hm'
                      refine opsOkA_cons ?_ ?_
                      · intro K vs W hR hD hK
                        have dq13 : vs 13 = .bool false := hD 13 (by decide)
                        clear hD
                        try dsimp only at hK ⊢
                        simp only [Act.put, List.setIfInBounds_toArray, List.set_cons_succ, List.set_cons_zero] at hK
                        generalize vs 13 = vq13 at hK dq13 ⊢
                        subst vq13
                        go_wp2
                        exact hK _ _ rfl (Mod.refl _ _)
                      refine opsOkA_cons ?_ ?_
                      · intro K vs W hR hD hK
                        have dq13 : vs 13 = .bool false := hD 13 (by decide)
                        have dq18 : vs 18 = .pointer (some ⟨ba, 1, none⟩) := hD 18 (by decide)
                        clear hD
                        try dsimp only at hK ⊢
                        simp only [Act.put, List.setIfInBounds_toArray, List.set_cons_succ, List.set_cons_zero] at hK
                        generalize vs 13 = vq13 at hK dq13 ⊢
                        subst vq13
                        generalize vs 18 = vq18 at hK dq18 ⊢
                        subst vq18
                        have q0 := ((HSd.out.at ((Mod.upF hR))).2.2.2.2.1).cell 1 rfl
                        go_wp2
                        exact hK _ _ rfl (Mod.refl _ _)
                      refine opsOkA_cons ?_ ?_
                      · intro K vs W hR hD hK
                        have dq13 : vs 13 = .bool false := hD 13 (by decide)
                        have dq19 : vs 19 = .int .i64 un := hD 19 (by decide)
                        clear hD
                        try dsimp only at hK ⊢
                        simp only [Act.put, List.setIfInBounds_toArray, List.set_cons_succ, List.set_cons_zero] at hK
                        generalize vs 13 = vq13 at hK dq13 ⊢
                        subst vq13
                        generalize vs 19 = vq19 at hK dq19 ⊢
                        subst vq19
                        have zz := ZU.out
                        go_wp2
                        exact hK _ _ rfl (Mod.refl _ _)
                      refine opsOkA_cons ?_ ?_
                      · intro K vs W hR hD hK
                        have dq13 : vs 13 = .bool false := hD 13 (by decide)
                        have dq20 : vs 20 = .bool true := hD 20 (by decide)
                        clear hD
                        try dsimp only at hK ⊢
                        simp only [Act.put, List.setIfInBounds_toArray, List.set_cons_succ, List.set_cons_zero] at hK
                        generalize vs 13 = vq13 at hK dq13 ⊢
                        subst vq13
                        generalize vs 20 = vq20 at hK dq20 ⊢
                        subst vq20
                        go_wp2
                        exact hK _ _ rfl (Mod.refl _ _)
                      refine opsOkA_cons ?_ ?_
                      · intro K vs W hR hD hK
                        have dq21 : vs 21 = .bool true := hD 21 (by decide)
                        clear hD
                        try dsimp only at hK ⊢
                        simp only [Act.put, List.setIfInBounds_toArray, List.set_cons_succ, List.set_cons_zero] at hK
                        generalize vs 21 = vq21 at hK dq21 ⊢
                        subst vq21
                        go_wp2
                        exact hK _ _ rfl (Mod.refl _ _)
                      refine opsOkA_cons ?_ ?_
                      · intro K vs W hR hD hK
                        have dq21 : vs 21 = .bool true := hD 21 (by decide)
                        have dq22 : vs 22 = .pointer (some ⟨ba, 1, none⟩) := hD 22 (by decide)
                        clear hD
                        try dsimp only at hK ⊢
                        simp only [Act.put, List.setIfInBounds_toArray, List.set_cons_succ, List.set_cons_zero] at hK
                        generalize vs 21 = vq21 at hK dq21 ⊢
                        subst vq21
                        generalize vs 22 = vq22 at hK dq22 ⊢
                        subst vq22
                        have q0 := ((HSd.out.at ((Mod.upF hR))).2.2.2.2.1).cell 1 rfl
                        go_wp2
                        exact hK _ _ rfl (Mod.refl _ _)
                      refine opsOkA_cons ?_ ?_
                      · intro K vs W hR hD hK
                        have dq21 : vs 21 = .bool true := hD 21 (by decide)
                        clear hD
                        try dsimp only at hK ⊢
                        simp only [Act.put, List.setIfInBounds_toArray, List.set_cons_succ, List.set_cons_zero] at hK
                        generalize vs 21 = vq21 at hK dq21 ⊢
                        subst vq21
                        go_wp2
                        exact hK _ _ rfl (Mod.refl _ _)
                      refine opsOkA_cons ?_ ?_
                      · intro K vs W hR hD hK
                        have dq21 : vs 21 = .bool true := hD 21 (by decide)
                        have dq24 : vs 24 = .slice (some ⟨g2, 0, none⟩) n n := hD 24 (by decide)
                        clear hD
                        try dsimp only at hK ⊢
                        simp only [Act.put, List.setIfInBounds_toArray, List.set_cons_succ, List.set_cons_zero] at hK
                        generalize vs 21 = vq21 at hK dq21 ⊢
                        subst vq21
                        generalize vs 24 = vq24 at hK dq24 ⊢
                        subst vq24
                        go_wp2_with fail
                        exact hK _ _ rfl (Mod.refl _ _)
                      refine opsOkA_cons ?_ ?_
                      · intro K vs W hR hD hK
                        have dq21 : vs 21 = .bool true := hD 21 (by decide)
                        have dq23 : vs 23 = .int .i64 un := hD 23 (by decide)
                        have dq25 : vs 25 = .int .i64 (n : Int) := hD 25 (by decide)
                        clear hD
                        try dsimp only at hK ⊢
                        simp only [Act.put, List.setIfInBounds_toArray, List.set_cons_succ, List.set_cons_zero] at hK
                        generalize vs 21 = vq21 at hK dq21 ⊢
                        subst vq21
                        generalize vs 23 = vq23 at hK dq23 ⊢
                        subst vq23
                        generalize vs 25 = vq25 at hK dq25 ⊢
                        subst vq25
                        have zy := ZN.out
                        go_wp2
                        exact hK _ _ rfl (Mod.refl _ _)
                      refine opsOkA_cons ?_ ?_
                      · intro K vs W hR hD hK
                        have dq13 : vs 13 = .bool false := hD 13 (by decide)
                        have dq21 : vs 21 = .bool true := hD 21 (by decide)
                        have dq26 : vs 26 = .bool true := hD 26 (by decide)
                        clear hD
                        try dsimp only at hK ⊢
                        simp only [Act.put, List.setIfInBounds_toArray, List.set_cons_succ, List.set_cons_zero] at hK
                        generalize vs 13 = vq13 at hK dq13 ⊢
                        subst vq13
                        generalize vs 21 = vq21 at hK dq21 ⊢
                        subst vq21
                        generalize vs 26 = vq26 at hK dq26 ⊢
                        subst vq26
                        go_wp2
                        exact hK _ _ rfl (Mod.refl _ _)
                      refine opsOkA_cons ?_ ?_
                      · intro K vs W hR hD hK
                        have dq13 : vs 13 = .bool false := hD 13 (by decide)
                        have dq27 : vs 27 = .bool true := hD 27 (by decide)
                        clear hD
                        try dsimp only at hK ⊢
                        simp only [Act.put, List.setIfInBounds_toArray, List.set_cons_succ, List.set_cons_zero] at hK
                        generalize vs 13 = vq13 at hK dq13 ⊢
                        subst vq13
                        generalize vs 27 = vq27 at hK dq27 ⊢
                        subst vq27
                        go_wp2
                        exact hK _ _ rfl (Mod.refl _ _)
                      refine opsOkA_cons ?_ ?_
                      · intro K vs W hR hD hK
                        have dq28 : vs 28 = .bool true := hD 28 (by decide)
                        clear hD
                        try dsimp only at hK ⊢
                        simp only [Act.put, List.setIfInBounds_toArray, List.set_cons_succ, List.set_cons_zero] at hK
                        generalize vs 28 = vq28 at hK dq28 ⊢
                        subst vq28
                        go_wp2
                        exact hK _ _ rfl (Mod.refl _ _)
                      refine opsOkA_cons ?_ ?_
                      · intro K vs W hR hD hK
                        have dq28 : vs 28 = .bool true := hD 28 (by decide)
                        clear hD
                        try dsimp only at hK ⊢
                        simp only [Act.put, List.setIfInBounds_toArray, List.set_cons_succ, List.set_cons_zero] at hK
                        generalize vs 28 = vq28 at hK dq28 ⊢
                        subst vq28
                        go_wp2
                        exact hK _ _ rfl (Mod.refl _ _)
                      refine opsOkA_cons ?_ ?_
                      · intro K vs W hR hD hK
                        have dq28 : vs 28 = .bool true := hD 28 (by decide)
                        have dq30 : vs 30 = .pointer (some ⟨ba, 1, none⟩) := hD 30 (by decide)
                        clear hD
                        try dsimp only at hK ⊢
                        simp only [Act.put, List.setIfInBounds_toArray, List.set_cons_succ, List.set_cons_zero] at hK
                        generalize vs 28 = vq28 at hK dq28 ⊢
                        subst vq28
                        generalize vs 30 = vq30 at hK dq30 ⊢
                        subst vq30
                        have q0 := ((HSd.out.at ((Mod.upF hR))).2.2.2.2.1).cell 1 rfl
                        go_wp2
                        exact hK _ _ rfl (Mod.refl _ _)
                      refine opsOkA_cons ?_ ?_
                      · intro K vs W hR hD hK
                        have dq28 : vs 28 = .bool true := hD 28 (by decide)
                        have dq29 : vs 29 = .slice (some ⟨g2, 0, none⟩) n n := hD 29 (by decide)
                        have dq31 : vs 31 = .int .i64 un := hD 31 (by decide)
                        clear hD
                        try dsimp only at hK ⊢
                        simp only [Act.put, List.setIfInBounds_toArray, List.set_cons_succ, List.set_cons_zero] at hK
                        generalize vs 28 = vq28 at hK dq28 ⊢
                        subst vq28
                        generalize vs 29 = vq29 at hK dq29 ⊢
                        subst vq29
                        generalize vs 31 = vq31 at hK dq31 ⊢
                        subst vq31
                        have hig := HIg2.out
                        go_wp2_with fail
                        exact hK _ _ rfl (Mod.refl _ _)
                      refine opsOkA_cons ?_ ?_
                      · intro K vs W hR hD hK
                        have dq28 : vs 28 = .bool true := hD 28 (by decide)
                        have dq32 : vs 32 = .pointer (some ⟨g2, ku, none⟩) := hD 32 (by decide)
                        clear hD
                        try dsimp only at hK ⊢
                        simp only [Act.put, List.setIfInBounds_toArray, List.set_cons_succ, List.set_cons_zero] at hK
                        generalize vs 28 = vq28 at hK dq28 ⊢
                        subst vq28
                        generalize vs 32 = vq32 at hK dq32 ⊢
                        subst vq32
                        have cbv := (HSd.out.at ((Mod.upF hR))).1
                        go_wp2
                        exact hK _ _ rfl (Mod.refl _ _)
                      refine opsOkA_cons ?_ ?_
                      · intro K vs W hR hD hK
                        have dq13 : vs 13 = .bool false := hD 13 (by decide)
                        have dq28 : vs 28 = .bool true := hD 28 (by decide)
                        have dq33 : vs 33 = .bool bv := hD 33 (by decide)
                        clear hD
                        try dsimp only at hK ⊢
                        simp only [Act.put, List.setIfInBounds_toArray, List.set_cons_succ, List.set_cons_zero] at hK
                        generalize vs 13 = vq13 at hK dq13 ⊢
                        subst vq13
                        generalize vs 28 = vq28 at hK dq28 ⊢
                        subst vq28
                        generalize vs 33 = vq33 at hK dq33 ⊢
                        subst vq33
                        go_wp2
                        exact hK _ _ rfl (Mod.refl _ _)
                      refine opsOkA_cons ?_ ?_
                      · intro K vs W hR hD hK
                        have dq13 : vs 13 = .bool false := hD 13 (by decide)
                        have dq17 : vs 17 = .bool bv := hD 17 (by decide)
                        have dq34 : vs 34 = .bool bv := hD 34 (by decide)
                        clear hD
                        try dsimp only at hK ⊢
                        simp only [Act.put, List.setIfInBounds_toArray, List.set_cons_succ, List.set_cons_zero] at hK
                        generalize vs 13 = vq13 at hK dq13 ⊢
                        subst vq13
                        generalize vs 17 = vq17 at hK dq17 ⊢
                        subst vq17
                        generalize vs 34 = vq34 at hK dq34 ⊢
                        subst vq34
                        go_wp2
                        exact hK _ _ rfl (Mod.refl _ _)
                      refine opsOkA_cons ?_ ?_
                      · intro K vs W hR hD hK
                        have dq13 : vs 13 = .bool false := hD 13 (by decide)
                        have dq35 : vs 35 = .bool false := hD 35 (by decide)
                        clear hD
                        try dsimp only at hK ⊢
                        simp only [Act.put, List.setIfInBounds_toArray, List.set_cons_succ, List.set_cons_zero] at hK
                        generalize vs 13 = vq13 at hK dq13 ⊢
                        subst vq13
                        generalize vs 35 = vq35 at hK dq35 ⊢
                        subst vq35
                        go_wp2
                        exact hK _ _ rfl (Mod.refl _ _)
                      exact opsOkA_nil
                    · intro vs wq20 hR hF
                      have dq36 : vs 36 = .bool false := hF 36 (by decide)
                      clear hF
                      try dsimp only
                      generalize vs 36 = vq36 at dq36 ⊢
                      subst dq36
                      replace HS := Lib.hid (HSd.out.step (Mod.upF hR))
                      have HRQ := Lib.hid hR
                      have hmd := (Mod.drew (fun _ => False) _).of2 hR
                      have HSO1 := Lib.hid (HSO.out.keep hmd (fun e => e))
                      clear HSO
                      have HSO := HSO1
                      clear HSO1
                      have HUO1 := Lib.hid (HUO.out.keep hmd (fun e => e) (fun e => e))
                      clear HUO
                      have HUO := HUO1
                      clear HUO1
                      clear hmd
                      clear HSd hR
                      have hbba := (HS.out.now).2.2.2.2.1
                      have qba_0 := hbba.cell 0 rfl
                      have qba_1 := hbba.cell 1 rfl
                      have qba_2 := hbba.cell 2 rfl
                      have lba := hbba.lt
                      clear hbba
                      go_wp2_with fail
                      go_meet
                      exact ⟨rfl, (Mod.drew _ _).of2 HRQ.out⟩
              case rest =>
                obtain ⟨hcv, hmx⟩ := hcut
                obtain ⟨wd, hwd⟩ : ∃ x : World, x = wc := ⟨_, rfl⟩
                subst hwd
                subst hcv
                clear qba_0 qba_1 qba_2 lba
                have HSO1 := Lib.hid (HSO.out.keep hmx (fun e => e))
                clear HSO
                have HSO := HSO1
                clear HSO1
                have HUO1 := Lib.hid (HUO.out.keep hmx (fun e => e) (fun e => e))
                clear HUO
                have HUO := HUO1
                clear HUO1
                replace HS := Lib.hid (HS.out.step (Mod.upF hmx))
                clear hmx
                have hbba := (HS.out.now).2.2.2.1
                have qba_0 := hbba.cell 0 rfl
                have qba_1 := hbba.cell 1 rfl
                have qba_2 := hbba.cell 2 rfl
                have lba := hbba.lt
                clear hbba
                go_wp2_with fail
                clear qba_0 qba_1 qba_2 lba
                replace HS := Lib.hid ((EvF.mod (fun k => k = p ∨ k = g) wd).and HS.out)
                go_loopw [19] (fun i wr => ∃ k : Nat, k ≤ n ∧ i = .int .i64 k ∧ Mod (fun _ => False) wd wr) (fun i _ => n - (intOf i).toNat)
                case atStart => exact ⟨0, by omega, rfl, Mod.refl _ _⟩
                case round =>
                  obtain ⟨k, hk, rfl, hmr⟩ := hrel
                  obtain ⟨wk, hwk⟩ : ∃ x : World, x = wr := ⟨_, rfl⟩
                  subst hwk
                  have HMK := Lib.hid hmr
                  have HSO1 := Lib.hid (HSO.out.keep hmr (fun e => e))
                  clear HSO
                  have HSO := HSO1
                  clear HSO1
                  have HUO1 := Lib.hid (HUO.out.keep hmr (fun e => e) (fun e => e))
                  clear HUO
                  have HUO := HUO1
                  clear HUO1
                  replace HS := Lib.hid (HS.out.step (Mod.upF hmr))
                  clear hmr
                  by_cases hkn : k < n
                  case neg =>
                    obtain rfl : k = n := by omega
                    have z0 : decide ((k : Int) < (k : Int)) = false := by simp
                    go_wp2_with fail
                    go_roundw
                    case rel => exact ⟨j + 1, us1, hlt, by go_num, HSO.out, HUO.out, (HS.out.now).2.2.2.2.2.2⟩
                    case measure => simp [intOf]; omega
                  case pos =>
                    have z0 : decide ((k : Int) < (n : Int)) = true := by simp; omega
                    obtain ⟨bv, HBQ0⟩ : ∃ qz, (us1.getD k 0 != 0) = qz := ⟨_, rfl⟩
                    have HBQ := Lib.hid HBQ0
                    clear HBQ0
                    have HBV : Hid ((maskL us1 n)[k]? = some bv) := Lib.hid (by rw [← HBQ.out]; simp [maskL, hkn])
                    have HCB : Hid (closedB us1 n (k : Int) = bv) := Lib.hid (by unfold closedB; rw [show edge1 n (k : Int) = true from decide_eq_true ⟨by omega, by omega⟩, Bool.true_and]; exact HBQ.out)
                    have HIg1 : Hid (∀ wx, (Instr.indexAt 40 (.slice (some ⟨g1, 0, none⟩) n n) (.int .i64 (k : Int))).run Try.prog wx = .ok (.pointer (some ⟨g1, k, none⟩)) wx) := Lib.hid (fun wx => by have h := run_indexS (P := Try.prog) wx 40 4 iB 1 Try.underlying40 hiB hsB (some ⟨g1, 0, none⟩) n n k hkn (by simp); rwa [show elemA (some ⟨g1, 0, none⟩) k 1 = ⟨g1, k, none⟩ by unfold elemA; rw [Option.getD_some, Addr.add_lit]; simp] at h)
                    have HIg2 : Hid (∀ wx, (Instr.indexAt 40 (.slice (some ⟨g2, 0, none⟩) n n) (.int .i64 (k : Int))).run Try.prog wx = .ok (.pointer (some ⟨g2, k, none⟩)) wx) := Lib.hid (fun wx => by have h := run_indexS (P := Try.prog) wx 40 4 iB 1 Try.underlying40 hiB hsB (some ⟨g2, 0, none⟩) n n k hkn (by simp); rwa [show elemA (some ⟨g2, 0, none⟩) k 1 = ⟨g2, k, none⟩ by unfold elemA; rw [Option.getD_some, Addr.add_lit]; simp] at h)
                    have hcell : wk.cell? ⟨g1, k, none⟩ = some (.bool bv) := by have h1 := ((HS.out.now).2.2.1).elem (j := k) (u := .bool bv) (by rw [List.getElem?_map, HBV.out]; rfl); rwa [show elemA (some ⟨g1, 0, none⟩) k 1 = ⟨g1, k, none⟩ by unfold elemA; rw [Option.getD_some, Addr.add_lit]; simp] at h1
                    replace HS := Lib.hid (((show EvF (fun k => k = p ∨ k = g) (fun W => W.cell? ⟨g1, k, none⟩ = some (.bool bv)) wk from fun W mW => mW.cell hcell (fun e => by rcases e with e | e; exact hg1p e; exact hg1g e))).and HS.out)
                    clear hcell
                    have hcell : wk.cell? ⟨g2, k, none⟩ = some (.bool bv) := by have h1 := ((HS.out.now).2.2.1).elem (j := k) (u := .bool bv) (by rw [List.getElem?_map, HBV.out]; rfl); rwa [show elemA (some ⟨g2, 0, none⟩) k 1 = ⟨g2, k, none⟩ by unfold elemA; rw [Option.getD_some, Addr.add_lit]; simp] at h1
                    replace HS := Lib.hid (((show EvF (fun k => k = p ∨ k = g) (fun W => W.cell? ⟨g2, k, none⟩ = some (.bool bv)) wk from fun W mW => mW.cell hcell (fun e => by rcases e with e | e; exact hg2p e; exact hg2g e))).and HS.out)
                    clear hcell
                    go_upto_region 35 with fail
                    clear z0
                    have HSd := Lib.hid HS.out.drew
                    refine wp_region_inv3 (act := ?actac_r35_3) (Mod (fun _ => False)) (fun i => (ac_r35_3_F n p g1 g2 k bv).getD i (fun _ _ => True)) (fun i => ac_r35_3_D.getD i []) (by kernel_rfl) (by kernel_rfl) (by kernel_rfl) (by kernel_rfl) (fun _ => Mod.refl _ _)
                      (fun _ _ _ h k => h.trans k (fun _ _ e => e) (fun _ _ e => e)) ?hactac_r35_3 (stable_list ?_) ?_ ?_
                    case hactac_r35_3 => intro vs; simp only [putAll, Nat.zero_add, Nat.reduceAdd, Act.put, List.setIfInBounds_toArray, List.set_cons_succ, List.set_cons_zero]; exact rfl
                    · unfold ac_r35_3_F
                      exact stable_cons (stable_val _) <| stable_cons (stable_val _) <| stable_cons (stable_val _) <| stable_cons (stable_val _) <| stable_cons (stable_val _) <| stable_cons (stable_val _) <| stable_cons (stable_val _) <| stable_cons (stable_val _) <| stable_cons (stable_val _) <| stable_cons (stable_val _) <| stable_cons (stable_val _) <| stable_cons (stable_val _) <| stable_cons (stable_val _) <| stable_cons (stable_val _) <| stable_cons (stable_val _) <| stable_cons (stable_val _) <| stable_cons (stable_val _) <| stable_cons (stable_val _) <| stable_cons (stable_val _) <| stable_nil
                    · refine opsOkA_cons ?_ ?_
                      · intro K vs W hR hD hK
                        clear hD
                        try dsimp only at hK ⊢
                        simp only [Act.put, List.setIfInBounds_toArray, List.set_cons_succ, List.set_cons_zero] at hK
                        go_wp2
                        exact hK _ _ rfl (Mod.refl _ _)
                      refine opsOkA_cons ?_ ?_
                      · intro K vs W hR hD hK
                        clear hD
                        try dsimp only at hK ⊢
                        simp only [Act.put, List.setIfInBounds_toArray, List.set_cons_succ, List.set_cons_zero] at hK
                        go_wp2
                        exact hK _ _ rfl (Mod.refl _ _)
                      refine opsOkA_cons ?_ ?_
                      · intro K vs W hR hD hK
                        have dq0 : vs 0 = .slice (some ⟨g1, 0, none⟩) n n := hD 0 (by decide)
                        have dq1 : vs 1 = .int .i64 (k : Int) := hD 1 (by decide)
                        clear hD
                        try dsimp only at hK ⊢
                        simp only [Act.put, List.setIfInBounds_toArray, List.set_cons_succ, List.set_cons_zero] at hK
                        generalize vs 0 = vq0 at hK dq0 ⊢
                        subst vq0
                        generalize vs 1 = vq1 at hK dq1 ⊢
                        subst vq1
                        have hig := HIg1.out
                        go_wp2_with fail
                        exact hK _ _ rfl (Mod.refl _ _)
                      refine opsOkA_cons ?_ ?_
                      · intro K vs W hR hD hK
                        have dq2 : vs 2 = .pointer (some ⟨g1, k, none⟩) := hD 2 (by decide)
                        clear hD
                        try dsimp only at hK ⊢
                        simp only [Act.put, List.setIfInBounds_toArray, List.set_cons_succ, List.set_cons_zero] at hK
                        generalize vs 2 = vq2 at hK dq2 ⊢
                        subst vq2
                        have cbv := (HSd.out.at ((Mod.upF hR))).2.1
                        go_wp2
                        exact hK _ _ rfl (Mod.refl _ _)
                      refine opsOkA_cons ?_ ?_
                      · intro K vs W hR hD hK
                        clear hD
                        try dsimp only at hK ⊢
                        simp only [Act.put, List.setIfInBounds_toArray, List.set_cons_succ, List.set_cons_zero] at hK
                        go_wp2
                        exact hK _ _ rfl (Mod.refl _ _)
                      refine opsOkA_cons ?_ ?_
                      · intro K vs W hR hD hK
                        clear hD
                        try dsimp only at hK ⊢
                        simp only [Act.put, List.setIfInBounds_toArray, List.set_cons_succ, List.set_cons_zero] at hK
                        go_wp2
                        exact hK _ _ rfl (Mod.refl _ _)
                      refine opsOkA_cons ?_ ?_
                      · intro K vs W hR hD hK
                        have dq4 : vs 4 = .slice (some ⟨g2, 0, none⟩) n n := hD 4 (by decide)
                        have dq5 : vs 5 = .int .i64 (k : Int) := hD 5 (by decide)
                        clear hD
                        try dsimp only at hK ⊢
                        simp only [Act.put, List.setIfInBounds_toArray, List.set_cons_succ, List.set_cons_zero] at hK
                        generalize vs 4 = vq4 at hK dq4 ⊢
                        subst vq4
                        generalize vs 5 = vq5 at hK dq5 ⊢
                        subst vq5
                        have hig := HIg2.out
                        go_wp2_with fail
                        exact hK _ _ rfl (Mod.refl _ _)
                      refine opsOkA_cons ?_ ?_
                      · intro K vs W hR hD hK
                        have dq6 : vs 6 = .pointer (some ⟨g2, k, none⟩) := hD 6 (by decide)
                        clear hD
                        try dsimp only at hK ⊢
                        simp only [Act.put, List.setIfInBounds_toArray, List.set_cons_succ, List.set_cons_zero] at hK
                        generalize vs 6 = vq6 at hK dq6 ⊢
                        subst vq6
                        have cbv := (HSd.out.at ((Mod.upF hR))).1
                        go_wp2
                        exact hK _ _ rfl (Mod.refl _ _)
                      refine opsOkA_cons ?_ ?_
                      · intro K vs W hR hD hK
                        have dq3 : vs 3 = .bool bv := hD 3 (by decide)
                        have dq7 : vs 7 = .bool bv := hD 7 (by decide)
                        clear hD
                        try dsimp only at hK ⊢
                        simp only [Act.put, List.setIfInBounds_toArray, List.set_cons_succ, List.set_cons_zero] at hK
                        generalize vs 3 = vq3 at hK dq3 ⊢
                        subst vq3
                        generalize vs 7 = vq7 at hK dq7 ⊢
                        subst vq7
                        go_wp2
                        exact hK _ _ rfl (Mod.refl _ _)
                      refine opsOkA_cons ?_ ?_
                      · intro K vs W hR hD hK
                        have dq8 : vs 8 = .bool false := hD 8 (by decide)
                        clear hD
                        try dsimp only at hK ⊢
                        simp only [Act.put, List.setIfInBounds_toArray, List.set_cons_succ, List.set_cons_zero] at hK
                        generalize vs 8 = vq8 at hK dq8 ⊢
                        subst vq8
                        go_wp2
                        exact hK _ _ rfl (Mod.refl _ _)
                      refine opsOkA_cons ?_ ?_
                      · intro K vs W hR hD hK
                        have dq9 : vs 9 = .bool false := hD 9 (by decide)
                        clear hD
                        try dsimp only at hK ⊢
                        simp only [Act.put, List.setIfInBounds_toArray, List.set_cons_succ, List.set_cons_zero] at hK
                        generalize vs 9 = vq9 at hK dq9 ⊢
                        subst vq9
                        go_wp2
                        exact hK _ _ rfl (Mod.refl _ _)
                      refine opsOkA_cons ?_ ?_
                      · intro K vs W hR hD hK
                        have dq9 : vs 9 = .bool false := hD 9 (by decide)
                        clear hD
                        try dsimp only at hK ⊢
                        simp only [Act.put, List.setIfInBounds_toArray, List.set_cons_succ, List.set_cons_zero] at hK
                        generalize vs 9 = vq9 at hK dq9 ⊢
                        subst vq9
                        go_wp2
                        exact hK _ _ rfl (Mod.refl _ _)
                      refine opsOkA_cons ?_ ?_
                      · intro K vs W hR hD hK
                        have dq9 : vs 9 = .bool false := hD 9 (by decide)
                        have dq10 : vs 10 = .pointer (some ⟨p, 0, none⟩) := hD 10 (by decide)
                        have dq11 : vs 11 = .int .i64 (k : Int) := hD 11 (by decide)
                        clear hD
                        try dsimp only at hK ⊢
                        simp only [Act.put, List.setIfInBounds_toArray, List.set_cons_succ, List.set_cons_zero] at hK
                        generalize vs 9 = vq9 at hK dq9 ⊢
                        subst vq9
                        generalize vs 10 = vq10 at hK dq10 ⊢
                        subst vq10
                        generalize vs 11 = vq11 at hK dq11 ⊢
                        subst vq11
                        go_wp2_with (go_at_call 22; refine (closed_any p n us1 W (HSO.out.keep ((Mod.drew (fun _ => False) _).of2 hR) (fun e => e)) (k : Int)).mono ?_; rintro e' w' ⟨rfl, hm'⟩; rw [HCB.out])
                        exact hK _ _ rfl hm'
                      refine opsOkA_cons ?_ ?_
                      · intro K vs W hR hD hK
                        have dq9 : vs 9 = .bool false := hD 9 (by decide)
                        clear hD
                        try dsimp only at hK ⊢
                        simp only [Act.put, List.setIfInBounds_toArray, List.set_cons_succ, List.set_cons_zero] at hK
                        generalize vs 9 = vq9 at hK dq9 ⊢
                        subst vq9
                        go_wp2
                        exact hK _ _ rfl (Mod.refl _ _)
                      refine opsOkA_cons ?_ ?_
                      · intro K vs W hR hD hK
                        have dq9 : vs 9 = .bool false := hD 9 (by decide)
                        clear hD
                        try dsimp only at hK ⊢
                        simp only [Act.put, List.setIfInBounds_toArray, List.set_cons_succ, List.set_cons_zero] at hK
                        generalize vs 9 = vq9 at hK dq9 ⊢
                        subst vq9
                        go_wp2
                        exact hK _ _ rfl (Mod.refl _ _)
                      refine opsOkA_cons ?_ ?_
                      · intro K vs W hR hD hK
                        have dq9 : vs 9 = .bool false := hD 9 (by decide)
                        have dq13 : vs 13 = .slice (some ⟨g2, 0, none⟩) n n := hD 13 (by decide)
                        have dq14 : vs 14 = .int .i64 (k : Int) := hD 14 (by decide)
                        clear hD
                        try dsimp only at hK ⊢
                        simp only [Act.put, List.setIfInBounds_toArray, List.set_cons_succ, List.set_cons_zero] at hK
                        generalize vs 9 = vq9 at hK dq9 ⊢
                        subst vq9
                        generalize vs 13 = vq13 at hK dq13 ⊢
                        subst vq13
                        generalize vs 14 = vq14 at hK dq14 ⊢
                        subst vq14
                        have hig := HIg2.out
                        go_wp2_with fail
                        exact hK _ _ rfl (Mod.refl _ _)
                      refine opsOkA_cons ?_ ?_
                      · intro K vs W hR hD hK
                        have dq9 : vs 9 = .bool false := hD 9 (by decide)
                        have dq15 : vs 15 = .pointer (some ⟨g2, k, none⟩) := hD 15 (by decide)
                        clear hD
                        try dsimp only at hK ⊢
                        simp only [Act.put, List.setIfInBounds_toArray, List.set_cons_succ, List.set_cons_zero] at hK
                        generalize vs 9 = vq9 at hK dq9 ⊢
                        subst vq9
                        generalize vs 15 = vq15 at hK dq15 ⊢
                        subst vq15
                        have cbv := (HSd.out.at ((Mod.upF hR))).1
                        go_wp2
                        exact hK _ _ rfl (Mod.refl _ _)
                      refine opsOkA_cons ?_ ?_
                      · intro K vs W hR hD hK
                        have dq9 : vs 9 = .bool false := hD 9 (by decide)
                        have dq12 : vs 12 = .bool bv := hD 12 (by decide)
                        have dq16 : vs 16 = .bool bv := hD 16 (by decide)
                        clear hD
                        try dsimp only at hK ⊢
                        simp only [Act.put, List.setIfInBounds_toArray, List.set_cons_succ, List.set_cons_zero] at hK
                        generalize vs 9 = vq9 at hK dq9 ⊢
                        subst vq9
                        generalize vs 12 = vq12 at hK dq12 ⊢
                        subst vq12
                        generalize vs 16 = vq16 at hK dq16 ⊢
                        subst vq16
                        go_wp2
                        exact hK _ _ rfl (Mod.refl _ _)
                      refine opsOkA_cons ?_ ?_
                      · intro K vs W hR hD hK
                        have dq9 : vs 9 = .bool false := hD 9 (by decide)
                        have dq17 : vs 17 = .bool false := hD 17 (by decide)
                        clear hD
                        try dsimp only at hK ⊢
                        simp only [Act.put, List.setIfInBounds_toArray, List.set_cons_succ, List.set_cons_zero] at hK
                        generalize vs 9 = vq9 at hK dq9 ⊢
                        subst vq9
                        generalize vs 17 = vq17 at hK dq17 ⊢
                        subst vq17
                        go_wp2
                        exact hK _ _ rfl (Mod.refl _ _)
                      exact opsOkA_nil
                    · intro vs wq21 hR hF
                      have dq18 : vs 18 = .bool false := hF 18 (by decide)
                      clear hF
                      try dsimp only
                      generalize vs 18 = vq18 at dq18 ⊢
                      subst dq18
                      replace HS := Lib.hid (HSd.out.step (Mod.upF hR))
                      have HRQ := Lib.hid hR
                      have hmd := (Mod.drew (fun _ => False) _).of2 hR
                      have HSO1 := Lib.hid (HSO.out.keep hmd (fun e => e))
                      clear HSO
                      have HSO := HSO1
                      clear HSO1
                      have HUO1 := Lib.hid (HUO.out.keep hmd (fun e => e) (fun e => e))
                      clear HUO
                      have HUO := HUO1
                      clear HUO1
                      clear hmd
                      clear HSd hR
                      have hbba := (HS.out.now).2.2.2.2.2.2.1
                      have qba_0 := hbba.cell 0 rfl
                      have qba_1 := hbba.cell 1 rfl
                      have qba_2 := hbba.cell 2 rfl
                      have lba := hbba.lt
                      clear hbba
                      go_wp2_with fail
                      go_roundw
                      case rel => exact ⟨k + 1, hkn, by go_num, HMK.out.of2 ((Mod.drew _ _).of2 HRQ.out)⟩
                      case measure => simp [intOf]; omega
theorem acts10_law (w : World) (nv : Int) (_ : (Lit.int .i64 nv).wf = true) (a0 : Option Addr) (m c0 : Nat) (l : List ActD) (ok : (encSlice encAct).ok w (.slice a0 m c0, l)) :
    Calls Try.prog 3 #[.int .i64 nv, .slice a0 m c0] w fun e w' => e = .returned (.bool true) ∧ Below w.heap.size w w' := by
  obtain ⟨hr, hp⟩ := ok
  have hr' : Rd w 3 (.slice a0 m c0) l.length (l.flatMap encAct.img) := hr
  have hn := hr'.len_eq
  subst hn
  exact (acts10_all w nv a0 _ c0 l rfl hr' (fun x hx => ActOk.of (hp x hx))).mono fun e w' h => ⟨h.1, h.2.below (Nat.le_refl _) (fun _ e => e.elim)⟩
end Go.Proofs.Ythlpednakhjmhaa
