/- NetActs by contract. -/
import Derived.Test.YtnklgeekjkchbaaN2
import Derived.Test.YtnklgeekjkchbaaRegion3
import Derived.Deep.DeepCutAuto
import Derived.Deep.CutBlock
namespace Go.Proofs.Ytnklgeekjkchbaa
open Go.RowKit Mile
set_option maxRecDepth 100000
theorem find_case {L : List Ar} (hs : SortN L) (f t : Int) : (∃ b, findN L f t = some b ∧ isN L ⟨f, t, 0, 0⟩ = true ∧ posN L ⟨f, t, 0, 0⟩ < L.length ∧ L[posN L ⟨f, t, 0, 0⟩]? = some b) ∨ (findN L f t = none ∧ isN L ⟨f, t, 0, 0⟩ = false) := by
  by_cases he : eqN L ⟨f, t, 0, 0⟩ = []
  · right
    refine ⟨findN_none fun b hb e => ?_, decide_eq_false (fun h => h he)⟩
    have := List.filter_eq_nil_iff.1 he b hb
    simp at this
    exact this e.1 e.2
  · left
    obtain ⟨b, h1, h2, h3, _⟩ := eqN_one hs he
    have hb : b ∈ eqN L ⟨f, t, 0, 0⟩ := by rw [h1]; exact List.mem_singleton.2 rfl
    unfold eqN at hb
    rw [List.mem_filter] at hb
    have e := of_decide_eq_true hb.2
    simp only at e
    refine ⟨b, ?_, decide_eq_true he, h2, h3⟩
    rw [← e.1, ← e.2]
    exact findN_some hs hb.1
/-- What each operation of the statement leaves. -/
def na_r25_0_F (q : Nat) (n : Nat) (o : Nat) (ra : Option Addr) (rc : Nat) (L : List Ar) : List (Value → World → Prop) :=
  [IsV (.pointer (some ⟨o, 0, none⟩)),
   IsV (.bool true),
   IsV (.bool true),
   IsV (.pointer (some ⟨o, 0, none⟩)),
   (ArP (L)),
   IsV (.pointer (some ⟨q, 0, none⟩)),
   IsV (.pointer (some ⟨q, 0, none⟩)),
   IsV (.pointer (some ⟨q, 1, none⟩)),
   IsV (.slice ra L.length rc),
   IsV (.bool true),
   IsV (.bool true),
   IsV (.bool true),
   IsV (.pointer (some ⟨o, 0, none⟩)),
   IsV (.int .i64 (n : Int)),
   IsV (.pointer (some ⟨q, 0, none⟩)),
   IsV (.pointer (some ⟨q, 0, none⟩)),
   IsV (.pointer (some ⟨q, 0, none⟩)),
   IsV (.int .i64 (n : Int)),
   IsV (.bool true),
   IsV (.bool true),
   IsV (.bool true),
   IsV (.bool true),
   IsV (.bool true),
   IsV (.bool true)]
def na_r25_0_D : List (List Nat) := [[], [0], [1], [2], [2, 3], [2], [2, 5], [2, 6], [2, 7], [2, 4, 8], [2, 9], [10], [11], [11, 12], [11], [11, 14], [11, 15], [11, 16], [11, 13, 17], [11, 18], [19], [20], [20, 21], [22]]

/-- What each operation of the statement leaves. -/
def na_r22_1_F (p : Nat) (q : Nat) (n : Nat) (g : Nat) (ra : Option Addr) (rc : Nat) (v : Int) (bf : Int) (bt : Int) (bw : Int) (bm : Int) (eb : Nat) (eo : Nat) (ps : Nat) (M : List Ar) : List (Value → World → Prop) :=
  [IsV (.bool true),
   IsV (.bool true),
   IsV (.bool false),
   IsV (.bool false),
   IsV (.bool true),
   IsV (.bool true),
   IsV (.agg #[.int .i64 bf, .int .i64 bt, .int .i64 bw, .int .i64 bm]),
   IsV (.pointer (some ⟨q, 0, none⟩)),
   IsV (.pointer (some ⟨q, 0, none⟩)),
   IsV (.pointer (some ⟨q, 1, none⟩)),
   IsV (.slice ra M.length rc),
   IsV (.int .i64 (ps : Int)),
   IsV (.pointer (some ⟨eb, eo, none⟩)),
   IsV (.agg #[.int .i64 bf, .int .i64 bt, .int .i64 bw, .int .i64 bm]),
   IsV (.bool false),
   IsV (.bool false),
   IsV (.bool false),
   IsV (.bool false),
   IsV (.pointer (some ⟨p, 0, none⟩)),
   (ArP (M)),
   IsV (.pointer (some ⟨q, 0, none⟩)),
   IsV (.pointer (some ⟨q, 0, none⟩)),
   IsV (.pointer (some ⟨q, 1, none⟩)),
   IsV (.slice ra M.length rc),
   IsV (.bool true),
   IsV (.bool false),
   IsV (.bool false),
   IsV (.bool false),
   IsV (.pointer (some ⟨p, 0, none⟩)),
   IsV (.pointer (some ⟨g, 5, none⟩)),
   IsV (.int .i64 v),
   (ArP (outL M v)),
   IsV (.pointer (some ⟨q, 0, none⟩)),
   IsV (.pointer (some ⟨g, 5, none⟩)),
   IsV (.int .i64 v),
   (ArP (outL M v)),
   IsV (.bool true),
   IsV (.bool false),
   IsV (.bool false),
   IsV (.bool false),
   IsV (.pointer (some ⟨p, 0, none⟩)),
   IsV (.pointer (some ⟨g, 5, none⟩)),
   IsV (.int .i64 v),
   (ArP (inL M v)),
   IsV (.pointer (some ⟨q, 0, none⟩)),
   IsV (.pointer (some ⟨g, 5, none⟩)),
   IsV (.int .i64 v),
   (ArP (inL M v)),
   IsV (.bool true),
   IsV (.bool false),
   IsV (.bool false),
   IsV (.bool false),
   IsV (.pointer (some ⟨p, 0, none⟩)),
   IsV (.int .i64 (n : Int)),
   IsV (.pointer (some ⟨q, 0, none⟩)),
   IsV (.pointer (some ⟨q, 0, none⟩)),
   IsV (.pointer (some ⟨q, 0, none⟩)),
   IsV (.int .i64 (n : Int)),
   IsV (.bool false),
   IsV (.bool false)]
def na_r22_1_D : List (List Nat) := [[], [], [0, 1], [2], [3], [3, 4], [5], [5], [5, 7], [5, 8], [5, 9], [5], [5, 10, 11], [5, 12], [5, 6, 13], [3, 5, 14], [3, 15], [16], [17], [17, 18], [17], [17, 20], [17, 21], [17, 22], [17, 19, 23], [17, 24], [17, 25], [26], [27], [27], [27, 29], [27, 28, 30], [27], [27], [27, 33], [27, 32, 34], [27, 31, 35], [27, 36], [27, 37], [38], [39], [39], [39, 41], [39, 40, 42], [39], [39], [39, 45], [39, 44, 46], [39, 43, 47], [39, 48], [39, 49], [50], [51], [51, 52], [51], [51, 54], [51, 55], [51, 56], [51, 53, 57], [51, 58]]

/-- What each operation of the statement leaves. -/
def na_r22_2_F (p : Nat) (q : Nat) (n : Nat) (g : Nat) (ra : Option Addr) (rc : Nat) (v : Int) (M : List Ar) : List (Value → World → Prop) :=
  [IsV (.bool false),
   IsV (.bool false),
   IsV (.bool false),
   IsV (.bool false),
   IsV (.bool false),
   IsV (.bool false),
   IsV (undef),
   IsV (undef),
   IsV (undef),
   IsV (undef),
   IsV (undef),
   IsV (undef),
   IsV (undef),
   IsV (undef),
   IsV (undef),
   IsV (.bool false),
   IsV (.bool false),
   IsV (.bool false),
   IsV (.pointer (some ⟨p, 0, none⟩)),
   (ArP (M)),
   IsV (.pointer (some ⟨q, 0, none⟩)),
   IsV (.pointer (some ⟨q, 0, none⟩)),
   IsV (.pointer (some ⟨q, 1, none⟩)),
   IsV (.slice ra M.length rc),
   IsV (.bool true),
   IsV (.bool false),
   IsV (.bool false),
   IsV (.bool false),
   IsV (.pointer (some ⟨p, 0, none⟩)),
   IsV (.pointer (some ⟨g, 5, none⟩)),
   IsV (.int .i64 v),
   (ArP (outL M v)),
   IsV (.pointer (some ⟨q, 0, none⟩)),
   IsV (.pointer (some ⟨g, 5, none⟩)),
   IsV (.int .i64 v),
   (ArP (outL M v)),
   IsV (.bool true),
   IsV (.bool false),
   IsV (.bool false),
   IsV (.bool false),
   IsV (.pointer (some ⟨p, 0, none⟩)),
   IsV (.pointer (some ⟨g, 5, none⟩)),
   IsV (.int .i64 v),
   (ArP (inL M v)),
   IsV (.pointer (some ⟨q, 0, none⟩)),
   IsV (.pointer (some ⟨g, 5, none⟩)),
   IsV (.int .i64 v),
   (ArP (inL M v)),
   IsV (.bool true),
   IsV (.bool false),
   IsV (.bool false),
   IsV (.bool false),
   IsV (.pointer (some ⟨p, 0, none⟩)),
   IsV (.int .i64 (n : Int)),
   IsV (.pointer (some ⟨q, 0, none⟩)),
   IsV (.pointer (some ⟨q, 0, none⟩)),
   IsV (.pointer (some ⟨q, 0, none⟩)),
   IsV (.int .i64 (n : Int)),
   IsV (.bool false),
   IsV (.bool false)]
def na_r22_2_D : List (List Nat) := [[], [], [0, 1], [2], [3], [3, 4], [5], [5], [5], [5], [5], [5], [5], [5], [5], [3, 5, 14], [3, 15], [16], [17], [17, 18], [17], [17, 20], [17, 21], [17, 22], [17, 19, 23], [17, 24], [17, 25], [26], [27], [27], [27, 29], [27, 28, 30], [27], [27], [27, 33], [27, 32, 34], [27, 31, 35], [27, 36], [27, 37], [38], [39], [39], [39, 41], [39, 40, 42], [39], [39], [39, 45], [39, 44, 46], [39, 43, 47], [39, 48], [39, 49], [50], [51], [51, 52], [51], [51, 54], [51, 55], [51, 56], [51, 53, 57], [51, 58]]

set_option maxHeartbeats 64000000 in
theorem nacts_all (w : World) (nv : Int) (a : Option Addr) (ln c : Nat) (A : List Ar) (hA : A.length = ln) (hr : Rd w 4 (.slice a ln c) ln (A.flatMap c4)) (a2 : Option Addr) (m c2 : Nat) (l : List ActN) (hm : l.length = m) (hr2 : Rd w 6 (.slice a2 m c2) m (l.flatMap c6N)) :
    Calls Try.prog 3 #[.int .i64 nv, .slice a ln c, .slice a2 m c2] w fun e w' => e = .returned (.bool true) ∧ Mod (fun _ => False) w w' := by
  by_cases hno : ¬ (ln ≤ 40 ∧ m ≤ 40)
  case pos =>
    clear hr hm hr2 hA
    have hend : ∀ (b0 b1 : Bool), decide (40 < (ln : Int)) = b0 → decide (40 < (m : Int)) = b1 → (b0 || b1) = true →
        Calls Try.prog 3 #[.int .i64 nv, .slice a ln c, .slice a2 m c2] w fun e w' => e = .returned (.bool true) ∧ Mod (fun _ => False) w w' := by
      intro b0 b1 hc0 hc1 hbb
      clear hno
      cases b0
      · skip
        cases b1
        · cases hbb
        · clear hbb 
          go_enter Try.func3, Try.ntmps3
          go_wp2_with fail
          refine (awake13_any _).mono ?_
          rintro e w9 ⟨rfl, hm9⟩
          go_wp2_with fail
          go_ret
          exact ⟨rfl, hm9⟩
      · clear hbb hc1
        go_enter Try.func3, Try.ntmps3
        go_wp2_with fail
        refine (awake13_any _).mono ?_
        rintro e w9 ⟨rfl, hm9⟩
        go_wp2_with fail
        go_ret
        exact ⟨rfl, hm9⟩
    refine hend _ _ rfl rfl ?_
    simp only [Bool.or_eq_true, decide_eq_true_eq]
    omega
  case neg =>
  obtain ⟨hl40, hm40⟩ : ln ≤ 40 ∧ m ≤ 40 := Decidable.not_not.1 hno
  clear hno
  obtain ⟨iA, hiA, hzA, hsA, hbA⟩ := info_parts Nt.infoA
  have hinfo : (Try.prog.info? 34).map (fun i => (i.zero, i.size, i.bytes)) = some (some (.agg #[.int .i64 0, .int .i64 0, .int .i64 0, .int .i64 0, .int .i64 0, .int .i64 0]), 6, 48) := by kernel_rfl
  obtain ⟨iT, hiT, hzT, hsT, hbT⟩ := info_parts hinfo
  clear hinfo
  have z0 : decide (40 < (ln : Int)) = false := by simp; omega
  have z0n : decide (40 < ln) = false := by simp; omega
  have z1 : decide (40 < (m : Int)) = false := by simp; omega
  have z1n : decide (40 < m) = false := by simp; omega
  have HLM := Lib.hid hm
  have HR2 := Lib.hid hr2
  have HLA := Lib.hid hA
  have HNN := Lib.hid (nt_new w nv a ln c A hA hr (by omega))
  have HRN := Lib.hid (fun W (mm : Mod (fun _ => False) w W) => rn_newG W nv a ln c A hA (hr.keep mm (fun _ _ e => e)) (by omega))
  obtain ⟨nb, hnb⟩ : ∃ y, newB nv A = y := ⟨_, rfl⟩
  have HNB := Lib.hid hnb
  clear hm hr2 hA hr hnb
  cases nb with
  | false =>
    go_enter Try.func3, Try.ntmps3
    go_wp2_with fail
    refine HNN.out.mono ?_
    rintro e w1 ⟨-, h1⟩
    obtain ⟨rfl, hm1⟩ := h1 HNB.out
    have HM1 := Lib.hid hm1
    clear h1 hm1
    go_wp2_with fail
    refine (HRN.out w1 HM1.out).mono ?_
    rintro e w2 ⟨-, h1⟩
    obtain ⟨rfl, hm1⟩ := h1 HNB.out
    have HM2 := Lib.hid (HM1.out.of2 hm1)
    clear h1 hm1
    go_wp2_with fail
    refine (awake13_any _).mono ?_
    rintro e w3 ⟨rfl, hm3⟩
    have HM3 := Lib.hid (HM2.out.of2 hm3)
    clear hm3
    go_wp2_with fail
    go_ret
    exact ⟨rfl, HM3.out⟩
  | true =>
    go_enter Try.func3, Try.ntmps3
    go_wp2_with fail
    refine HNN.out.mono ?_
    rintro e w1 ⟨h1, -⟩
    obtain ⟨p, F, rfl, hnt, hnF, hm1⟩ := h1 HNB.out
    have HNT := Lib.hid hnt
    have HNF := Lib.hid hnF
    have HM1 := Lib.hid hm1
    clear h1 hm1 hnt hnF
    go_wp2_with fail
    refine (HRN.out w1 HM1.out).mono ?_
    rintro e w2 ⟨h1, -⟩
    obtain ⟨q, rfl, hrn, hq, hm1⟩ := h1 HNB.out
    have hL0 : (putAllN A).length ≤ 40 := by have h := HNB.out; unfold newB at h; have h2 := (putAll_ok A [] (NetOk.nil nv.toNat) (fun b hb => of_decide_eq_true (List.all_eq_true.1 (Bool.and_eq_true_iff.1 h).2 b hb))).2; have := HLA.out; unfold putAllN; simp only [List.length_nil] at h2; omega
    obtain ⟨L0, hL⟩ : ∃ L, putAllN A = L := ⟨_, rfl⟩
    obtain ⟨n, hn⟩ : ∃ n, nv.toNat = n := ⟨_, rfl⟩
    have hnt2 := HNT.out
    rw [hL, hn] at hnt2 hrn
    rw [hL] at hL0
    have hqb : ∃ cs T, Blk w2 q T cs := by obtain ⟨a, c, hb, _⟩ := hrn; exact ⟨_, _, hb⟩
    have HX : Hid (∃ F G, NT w2 p n L0 F ∧ RNG w2 q n L0 G ∧ (∀ k, F k → w.heap.size ≤ k ∧ k ≠ q ∧ ¬ G k) ∧ (∀ k, G k → w.heap.size ≤ k ∧ k < w2.heap.size) ∧ w.heap.size ≤ q ∧ Mod (fun _ => False) w w2) := Lib.hid ⟨F, _, hnt2.later hm1, hrn, fun k hk => ⟨HNF.out k hk, fun e => by have := hnt2.lt k hk; omega, fun e => by have := hnt2.lt k hk; omega⟩, fun k hk => ⟨Nat.le_trans HM1.out.size hk.1, hk.2⟩, Nat.le_trans HM1.out.size hq, HM1.out.of2 hm1⟩
    clear h1 hrn hq hm1 hnt2 hL hn hqb HNT HNF HM1 HNB HLA
    go_wp2_with fail
    go_loopw [10] (fun iv wr => ∃ (k : Nat) (L : List Ar) (F G : Nat → Prop), iv = .int .i64 (k : Int) ∧ k ≤ m ∧ L.length ≤ 40 + k ∧ NT wr p n L F ∧ RNG wr q n L G ∧ (∀ j, F j → w.heap.size ≤ j ∧ j ≠ q ∧ ¬ G j) ∧ (∀ j, G j → w.heap.size ≤ j ∧ j < wr.heap.size) ∧ w.heap.size ≤ q ∧ Mod (fun _ => False) w wr) (fun iv _ => m - (intOf iv).toNat)
    case atStart =>
      obtain ⟨F, G, h⟩ := HX.out
      exact ⟨0, L0, F, G, rfl, Nat.zero_le _, by omega, h⟩
    case round =>
      obtain ⟨k, L, F, G, rfl, hk, hLk, hnt, hrn, hF, hG, hq, hmd⟩ := hrel
      obtain ⟨w3, hw3⟩ : ∃ x : World, x = wr := ⟨_, rfl⟩
      subst hw3
      have HNT := Lib.hid hnt
      have HRG := Lib.hid hrn
      have HF := Lib.hid hF
      have HG := Lib.hid hG
      have HQ := Lib.hid hq
      have HMD := Lib.hid hmd
      clear hnt hrn hF hG hq hmd HX HNN HRN
      by_cases hlt : k < m
      case neg =>
        have y2 : decide ((k : Int) < (m : Int)) = false := by simp; omega
        have y3 : decide (k < m) = false := by simpa using hlt
        go_wp2_with fail
        refine (nt_copy HNT.out).mono ?_
        rintro e w4 ⟨o, Fo, rfl, hno, hfo, hm4⟩
        obtain ⟨ra, rc, rb, rr, _⟩ := HRG.out.later hm4
        go_upto_region 25 with fail
        have HS : Hid (Ev (Mod (fun _ => False) w4) w4) := Lib.hid (Ev.mod w4)
        replace HS := Lib.hid ((Ev.nt hno).and HS.out)
        replace HS := Lib.hid ((Ev.blk rb).and HS.out)
        replace HS := Lib.hid ((Ev.rd rr).and HS.out)
        have HM4 := Lib.hid (HMD.out.of2 hm4)
        clear hno rb rr hm4 hfo
        have hbq := (HS.out.now).2.1
        have qq_0 := hbq.cell 0 rfl
        have qq_1 := hbq.cell 1 rfl
        have lq := hbq.lt
        clear hbq
        clear qq_0 qq_1 lq
        have HSd := Lib.hid HS.out.drew
        refine wp_region_inv3 (act := ?actna_r25_0) (Mod (fun _ => False)) (fun i => (na_r25_0_F q n o ra rc L).getD i (fun _ _ => True)) (fun i => na_r25_0_D.getD i []) (by kernel_rfl) (by kernel_rfl) (by kernel_rfl) (by kernel_rfl) (fun _ => Mod.refl _ _)
          (fun _ _ _ h k => h.trans k (fun _ _ e => e) (fun _ _ e => e)) ?hactna_r25_0 (stable_list ?_) ?_ ?_
        case hactna_r25_0 => intro vs; simp only [putAll, Nat.zero_add, Nat.reduceAdd, Act.put, List.setIfInBounds_toArray, List.set_cons_succ, List.set_cons_zero]; exact rfl
        · unfold na_r25_0_F
          exact stable_cons (stable_val _) <| stable_cons (stable_val _) <| stable_cons (stable_val _) <| stable_cons (stable_val _) <| stable_cons (ArP.st _) <| stable_cons (stable_val _) <| stable_cons (stable_val _) <| stable_cons (stable_val _) <| stable_cons (stable_val _) <| stable_cons (stable_val _) <| stable_cons (stable_val _) <| stable_cons (stable_val _) <| stable_cons (stable_val _) <| stable_cons (stable_val _) <| stable_cons (stable_val _) <| stable_cons (stable_val _) <| stable_cons (stable_val _) <| stable_cons (stable_val _) <| stable_cons (stable_val _) <| stable_cons (stable_val _) <| stable_cons (stable_val _) <| stable_cons (stable_val _) <| stable_cons (stable_val _) <| stable_cons (stable_val _) <| stable_nil
        · refine opsOkA_cons ?_ ?_
          · intro K vs W hR hD hK
            clear hD
            try dsimp only at hK ⊢
            simp only [Act.put, List.setIfInBounds_toArray, List.set_cons_succ, List.set_cons_zero] at hK
            go_wp2
            exact hK _ _ rfl (Mod.refl _ _)
          refine opsOkA_cons ?_ ?_
          · intro K vs W hR hD hK
            have dq0 : vs 0 = .pointer (some ⟨o, 0, none⟩) := hD 0 (by decide)
            clear hD
            try dsimp only at hK ⊢
            simp only [Act.put, List.setIfInBounds_toArray, List.set_cons_succ, List.set_cons_zero] at hK
            generalize vs 0 = vq0 at hK dq0 ⊢
            subst vq0
            go_wp2
            exact hK _ _ rfl (Mod.refl _ _)
          refine opsOkA_cons ?_ ?_
          · intro K vs W hR hD hK
            have dq1 : vs 1 = .bool true := hD 1 (by decide)
            clear hD
            try dsimp only at hK ⊢
            simp only [Act.put, List.setIfInBounds_toArray, List.set_cons_succ, List.set_cons_zero] at hK
            generalize vs 1 = vq1 at hK dq1 ⊢
            subst vq1
            go_wp2
            exact hK _ _ rfl (Mod.refl _ _)
          refine opsOkA_cons ?_ ?_
          · intro K vs W hR hD hK
            have dq2 : vs 2 = .bool true := hD 2 (by decide)
            clear hD
            try dsimp only at hK ⊢
            simp only [Act.put, List.setIfInBounds_toArray, List.set_cons_succ, List.set_cons_zero] at hK
            generalize vs 2 = vq2 at hK dq2 ⊢
            subst vq2
            go_wp2
            exact hK _ _ rfl (Mod.refl _ _)
          refine opsOkA_cons ?_ ?_
          · intro K vs W hR hD hK
            have dq2 : vs 2 = .bool true := hD 2 (by decide)
            have dq3 : vs 3 = .pointer (some ⟨o, 0, none⟩) := hD 3 (by decide)
            clear hD
            try dsimp only at hK ⊢
            simp only [Act.put, List.setIfInBounds_toArray, List.set_cons_succ, List.set_cons_zero] at hK
            generalize vs 2 = vq2 at hK dq2 ⊢
            subst vq2
            generalize vs 3 = vq3 at hK dq3 ⊢
            subst vq3
            go_wp2_with (go_at_call 20; refine (nt_all ((HSd.out.at (hR)).2.2.1)).mono ?_; rintro e' w' ⟨xa', xc', rfl, ho', hm'⟩)
            exact hK _ _ ⟨_, _, rfl, Rd.ofOwn ho'⟩ hm'
          refine opsOkA_cons ?_ ?_
          · intro K vs W hR hD hK
            have dq2 : vs 2 = .bool true := hD 2 (by decide)
            clear hD
            try dsimp only at hK ⊢
            simp only [Act.put, List.setIfInBounds_toArray, List.set_cons_succ, List.set_cons_zero] at hK
            generalize vs 2 = vq2 at hK dq2 ⊢
            subst vq2
            go_wp2
            exact hK _ _ rfl (Mod.refl _ _)
          refine opsOkA_cons ?_ ?_
          · intro K vs W hR hD hK
            have dq2 : vs 2 = .bool true := hD 2 (by decide)
            have dq5 : vs 5 = .pointer (some ⟨q, 0, none⟩) := hD 5 (by decide)
            clear hD
            try dsimp only at hK ⊢
            simp only [Act.put, List.setIfInBounds_toArray, List.set_cons_succ, List.set_cons_zero] at hK
            generalize vs 2 = vq2 at hK dq2 ⊢
            subst vq2
            generalize vs 5 = vq5 at hK dq5 ⊢
            subst vq5
            go_wp2
            exact hK _ _ rfl (Mod.refl _ _)
          refine opsOkA_cons ?_ ?_
          · intro K vs W hR hD hK
            have dq2 : vs 2 = .bool true := hD 2 (by decide)
            have dq6 : vs 6 = .pointer (some ⟨q, 0, none⟩) := hD 6 (by decide)
            clear hD
            try dsimp only at hK ⊢
            simp only [Act.put, List.setIfInBounds_toArray, List.set_cons_succ, List.set_cons_zero] at hK
            generalize vs 2 = vq2 at hK dq2 ⊢
            subst vq2
            generalize vs 6 = vq6 at hK dq6 ⊢
            subst vq6
            go_wp2
            exact hK _ _ rfl (Mod.refl _ _)
          refine opsOkA_cons ?_ ?_
          · intro K vs W hR hD hK
            have dq2 : vs 2 = .bool true := hD 2 (by decide)
            have dq7 : vs 7 = .pointer (some ⟨q, 1, none⟩) := hD 7 (by decide)
            clear hD
            try dsimp only at hK ⊢
            simp only [Act.put, List.setIfInBounds_toArray, List.set_cons_succ, List.set_cons_zero] at hK
            generalize vs 2 = vq2 at hK dq2 ⊢
            subst vq2
            generalize vs 7 = vq7 at hK dq7 ⊢
            subst vq7
            have q0 := ((HSd.out.at (hR)).2.1).cell 1 rfl
            go_wp2
            exact hK _ _ rfl (Mod.refl _ _)
          refine opsOkA_cons ?_ ?_
          · intro K vs W hR hD hK
            have dq2 : vs 2 = .bool true := hD 2 (by decide)
            have dq4 : (ArP (L)) (vs 4) W := hD 4 (by decide)
            have dq8 : vs 8 = .slice ra L.length rc := hD 8 (by decide)
            clear hD
            try dsimp only at hK ⊢
            simp only [Act.put, List.setIfInBounds_toArray, List.set_cons_succ, List.set_cons_zero] at hK
            generalize vs 2 = vq2 at hK dq2 ⊢
            subst vq2
            generalize vs 4 = vq4 at hK dq4 ⊢
            generalize vs 8 = vq8 at hK dq8 ⊢
            subst vq8
            obtain ⟨xa4, xc4, rfl, hr4⟩ := dq4
            go_wp2_with (go_at_call 19; refine (same13_any W L xa4 _ xc4 ra rc rfl (by omega) hr4 ((HSd.out.at (hR)).1)).mono ?_; rintro e' w' ⟨rfl, hm'⟩)
            exact hK _ _ rfl hm'
          refine opsOkA_cons ?_ ?_
          · intro K vs W hR hD hK
            have dq2 : vs 2 = .bool true := hD 2 (by decide)
            have dq9 : vs 9 = .bool true := hD 9 (by decide)
            clear hD
            try dsimp only at hK ⊢
            simp only [Act.put, List.setIfInBounds_toArray, List.set_cons_succ, List.set_cons_zero] at hK
            generalize vs 2 = vq2 at hK dq2 ⊢
            subst vq2
            generalize vs 9 = vq9 at hK dq9 ⊢
            subst vq9
            go_wp2
            exact hK _ _ rfl (Mod.refl _ _)
          refine opsOkA_cons ?_ ?_
          · intro K vs W hR hD hK
            have dq10 : vs 10 = .bool true := hD 10 (by decide)
            clear hD
            try dsimp only at hK ⊢
            simp only [Act.put, List.setIfInBounds_toArray, List.set_cons_succ, List.set_cons_zero] at hK
            generalize vs 10 = vq10 at hK dq10 ⊢
            subst vq10
            go_wp2
            exact hK _ _ rfl (Mod.refl _ _)
          refine opsOkA_cons ?_ ?_
          · intro K vs W hR hD hK
            have dq11 : vs 11 = .bool true := hD 11 (by decide)
            clear hD
            try dsimp only at hK ⊢
            simp only [Act.put, List.setIfInBounds_toArray, List.set_cons_succ, List.set_cons_zero] at hK
            generalize vs 11 = vq11 at hK dq11 ⊢
            subst vq11
            go_wp2
            exact hK _ _ rfl (Mod.refl _ _)
          refine opsOkA_cons ?_ ?_
          · intro K vs W hR hD hK
            have dq11 : vs 11 = .bool true := hD 11 (by decide)
            have dq12 : vs 12 = .pointer (some ⟨o, 0, none⟩) := hD 12 (by decide)
            clear hD
            try dsimp only at hK ⊢
            simp only [Act.put, List.setIfInBounds_toArray, List.set_cons_succ, List.set_cons_zero] at hK
            generalize vs 11 = vq11 at hK dq11 ⊢
            subst vq11
            generalize vs 12 = vq12 at hK dq12 ⊢
            subst vq12
            go_wp2_with (go_at_call 25; refine (nt_len ((HSd.out.at (hR)).2.2.1)).mono ?_; rintro e' w' ⟨rfl, rfl⟩)
            exact hK _ _ rfl (Mod.refl _ _)
          refine opsOkA_cons ?_ ?_
          · intro K vs W hR hD hK
            have dq11 : vs 11 = .bool true := hD 11 (by decide)
            clear hD
            try dsimp only at hK ⊢
            simp only [Act.put, List.setIfInBounds_toArray, List.set_cons_succ, List.set_cons_zero] at hK
            generalize vs 11 = vq11 at hK dq11 ⊢
            subst vq11
            go_wp2
            exact hK _ _ rfl (Mod.refl _ _)
          refine opsOkA_cons ?_ ?_
          · intro K vs W hR hD hK
            have dq11 : vs 11 = .bool true := hD 11 (by decide)
            have dq14 : vs 14 = .pointer (some ⟨q, 0, none⟩) := hD 14 (by decide)
            clear hD
            try dsimp only at hK ⊢
            simp only [Act.put, List.setIfInBounds_toArray, List.set_cons_succ, List.set_cons_zero] at hK
            generalize vs 11 = vq11 at hK dq11 ⊢
            subst vq11
            generalize vs 14 = vq14 at hK dq14 ⊢
            subst vq14
            go_wp2
            exact hK _ _ rfl (Mod.refl _ _)
          refine opsOkA_cons ?_ ?_
          · intro K vs W hR hD hK
            have dq11 : vs 11 = .bool true := hD 11 (by decide)
            have dq15 : vs 15 = .pointer (some ⟨q, 0, none⟩) := hD 15 (by decide)
            clear hD
            try dsimp only at hK ⊢
            simp only [Act.put, List.setIfInBounds_toArray, List.set_cons_succ, List.set_cons_zero] at hK
            generalize vs 11 = vq11 at hK dq11 ⊢
            subst vq11
            generalize vs 15 = vq15 at hK dq15 ⊢
            subst vq15
            go_wp2
            exact hK _ _ rfl (Mod.refl _ _)
          refine opsOkA_cons ?_ ?_
          · intro K vs W hR hD hK
            have dq11 : vs 11 = .bool true := hD 11 (by decide)
            have dq16 : vs 16 = .pointer (some ⟨q, 0, none⟩) := hD 16 (by decide)
            clear hD
            try dsimp only at hK ⊢
            simp only [Act.put, List.setIfInBounds_toArray, List.set_cons_succ, List.set_cons_zero] at hK
            generalize vs 11 = vq11 at hK dq11 ⊢
            subst vq11
            generalize vs 16 = vq16 at hK dq16 ⊢
            subst vq16
            have q0 := ((HSd.out.at (hR)).2.1).cell 0 rfl
            go_wp2
            exact hK _ _ rfl (Mod.refl _ _)
          refine opsOkA_cons ?_ ?_
          · intro K vs W hR hD hK
            have dq11 : vs 11 = .bool true := hD 11 (by decide)
            have dq13 : vs 13 = .int .i64 (n : Int) := hD 13 (by decide)
            have dq17 : vs 17 = .int .i64 (n : Int) := hD 17 (by decide)
            clear hD
            try dsimp only at hK ⊢
            simp only [Act.put, List.setIfInBounds_toArray, List.set_cons_succ, List.set_cons_zero] at hK
            generalize vs 11 = vq11 at hK dq11 ⊢
            subst vq11
            generalize vs 13 = vq13 at hK dq13 ⊢
            subst vq13
            generalize vs 17 = vq17 at hK dq17 ⊢
            subst vq17
            go_wp2
            exact hK _ _ rfl (Mod.refl _ _)
          refine opsOkA_cons ?_ ?_
          · intro K vs W hR hD hK
            have dq11 : vs 11 = .bool true := hD 11 (by decide)
            have dq18 : vs 18 = .bool true := hD 18 (by decide)
            clear hD
            try dsimp only at hK ⊢
            simp only [Act.put, List.setIfInBounds_toArray, List.set_cons_succ, List.set_cons_zero] at hK
            generalize vs 11 = vq11 at hK dq11 ⊢
            subst vq11
            generalize vs 18 = vq18 at hK dq18 ⊢
            subst vq18
            go_wp2
            exact hK _ _ rfl (Mod.refl _ _)
          refine opsOkA_cons ?_ ?_
          · intro K vs W hR hD hK
            have dq19 : vs 19 = .bool true := hD 19 (by decide)
            clear hD
            try dsimp only at hK ⊢
            simp only [Act.put, List.setIfInBounds_toArray, List.set_cons_succ, List.set_cons_zero] at hK
            generalize vs 19 = vq19 at hK dq19 ⊢
            subst vq19
            go_wp2
            exact hK _ _ rfl (Mod.refl _ _)
          refine opsOkA_cons ?_ ?_
          · intro K vs W hR hD hK
            have dq20 : vs 20 = .bool true := hD 20 (by decide)
            clear hD
            try dsimp only at hK ⊢
            simp only [Act.put, List.setIfInBounds_toArray, List.set_cons_succ, List.set_cons_zero] at hK
            generalize vs 20 = vq20 at hK dq20 ⊢
            subst vq20
            go_wp2_with (go_at_call 10; refine (awake13_any W).mono ?_; rintro e' w' ⟨rfl, hm'⟩)
            exact hK _ _ rfl hm'
          refine opsOkA_cons ?_ ?_
          · intro K vs W hR hD hK
            have dq20 : vs 20 = .bool true := hD 20 (by decide)
            have dq21 : vs 21 = .bool true := hD 21 (by decide)
            clear hD
            try dsimp only at hK ⊢
            simp only [Act.put, List.setIfInBounds_toArray, List.set_cons_succ, List.set_cons_zero] at hK
            generalize vs 20 = vq20 at hK dq20 ⊢
            subst vq20
            generalize vs 21 = vq21 at hK dq21 ⊢
            subst vq21
            go_wp2
            exact hK _ _ rfl (Mod.refl _ _)
          refine opsOkA_cons ?_ ?_
          · intro K vs W hR hD hK
            have dq22 : vs 22 = .bool true := hD 22 (by decide)
            clear hD
            try dsimp only at hK ⊢
            simp only [Act.put, List.setIfInBounds_toArray, List.set_cons_succ, List.set_cons_zero] at hK
            generalize vs 22 = vq22 at hK dq22 ⊢
            subst vq22
            go_wp2
            exact hK _ _ rfl (Mod.refl _ _)
          exact opsOkA_nil
        · intro vs wq1 hR hF
          have dq23 : vs 23 = .bool true := hF 23 (by decide)
          clear hF
          try dsimp only
          generalize vs 23 = vq23 at dq23 ⊢
          subst dq23
          replace HS := Lib.hid (HSd.out.step hR)
          clear HSd hR
          have hbq := (HS.out.now).2.1
          have qq_0 := hbq.cell 0 rfl
          have qq_1 := hbq.cell 1 rfl
          have lq := hbq.lt
          clear hbq
          go_wp2_with fail
          go_ret
          exact ⟨rfl, HM4.out.of2 (HS.out.now).2.2.2⟩
      case pos =>
        have y2 : decide ((k : Int) < (m : Int)) = true := by simp; omega
        have y3 : decide (k < m) = true := by simpa using hlt
        have hkl : k < l.length := by rw [HLM.out]; exact hlt
        have hrd := HR2.out.keep HMD.out (fun _ _ e => e)
        obtain ⟨eb, eo, hpl, e0, e1, e2, e3, e4, e5⟩ := rd6N hrd HLM.out k hkl
        have hix := fun wx => run_indexS (P := Try.prog) wx 23 34 iT 6 Try.underlying23 hiT hsT a2 m c2 k hlt (hrd.some_ (by omega))
        rw [hpl] at hix
        obtain ⟨kd, hkd⟩ : ∃ y, l[k].1 = y := ⟨_, rfl⟩
        rw [hkd] at e0
        obtain ⟨f, hf⟩ : ∃ y, (arD l[k].2.1).f = y := ⟨_, rfl⟩
        rw [hf] at e1
        obtain ⟨t, ht⟩ : ∃ y, (arD l[k].2.1).t = y := ⟨_, rfl⟩
        rw [ht] at e2
        obtain ⟨wi, hwi⟩ : ∃ y, (arD l[k].2.1).w = y := ⟨_, rfl⟩
        rw [hwi] at e3
        obtain ⟨mi, hmi⟩ : ∃ y, (arD l[k].2.1).m = y := ⟨_, rfl⟩
        rw [hmi] at e4
        obtain ⟨v, hv⟩ : ∃ y, l[k].2.2.1 = y := ⟨_, rfl⟩
        rw [hv] at e5
        clear hkd hf ht hwi hmi hv hpl hrd hkl
        obtain ⟨g, hg⟩ : ∃ y, w3.heap.size = y := ⟨_, rfl⟩
        obtain ⟨wA, hwA⟩ : ∃ y, w3.alloc (.cells #[.int .i64 kd, .int .i64 f, .int .i64 t, .int .i64 wi, .int .i64 mi, .int .i64 v] 34) = y := ⟨_, rfl⟩
        have hgA : Blk wA g 34 [.int .i64 kd, .int .i64 f, .int .i64 t, .int .i64 wi, .int .i64 mi, .int .i64 v] := by rw [← hwA, ← hg]; exact Blk.new w3 34 [.int .i64 kd, .int .i64 f, .int .i64 t, .int .i64 wi, .int .i64 mi, .int .i64 v]
        have hmA : Mod (fun _ => False) w3 wA := by rw [← hwA]; exact Mod.alloc _ _ _
        have HDA : Hid (N2S w wA p q n L L g 34 [.int .i64 kd, .int .i64 f, .int .i64 t, .int .i64 wi, .int .i64 mi, .int .i64 v]) := Lib.hid ⟨F, G, HNT.out.later hmA, HRG.out.later hmA, fun j hj => ⟨(HF.out j hj).1, (HF.out j hj).2.1, (HF.out j hj).2.2, fun e => by have := HNT.out.lt j hj; omega⟩, fun j hj => ⟨(HG.out j hj).1, Nat.lt_of_lt_of_le (HG.out j hj).2 hmA.size⟩, ⟨HQ.out, fun e => by have := HRG.out.lt; omega⟩, hgA, HMD.out.of2 hmA⟩
        clear hmA
        go_upto_region 13 with fail
        (try rw [hwA])
        (try rw [hg])
        have g0 := hgA.cell 0 rfl
        have g1 := hgA.cell 1 rfl
        have g2 := hgA.cell 2 rfl
        have g3 := hgA.cell 3 rfl
        have g4 := hgA.cell 4 rfl
        have g5 := hgA.cell 5 rfl
        have HOK := Lib.hid HNT.out.ok
        clear hwA hg hgA e0 e1 e2 e3 e4 e5 hix HNT HRG HF HG HQ HMD
        go_upto_block 2 with fail
        go_cut [64, 75] (fun _ _ wx => ∃ L2 : List Ar, L2.length ≤ 40 + (k + 1) ∧ NetOk n L2 ∧ N2S w wx p q n L2 L2 g 34 [.int .i64 kd, .int .i64 f, .int .i64 t, .int .i64 wi, .int .i64 mi, .int .i64 v])
        case first =>
          by_cases hk1 : kd = 1
          case pos =>
            have x1 : (kd == 1) = true := by simpa using hk1
            clear hk1
            go_upto_region 15 with fail
            have hpo := putR_ok HOK.out ⟨f, t, wi, mi⟩
            have HPO := Lib.hid hpo
            clear hpo
            obtain ⟨pb, hpb⟩ : ∃ y2, putOk n L ⟨f, t, wi, mi⟩ = y2 := ⟨_, rfl⟩
            have HPB := Lib.hid hpb
            clear hpb
            go_region_law (first | (go_simp; go_at_call 13; refine (n2_put1 (by first | exact HDA.out | exact HDA.out.later (Mod.drew _ _)) f t wi mi pb HPB.out).mono ?_; rintro e wb ⟨rfl, hs⟩; have g1b := hs.blk.cell 1 rfl; have g2b := hs.blk.cell 2 rfl; have g3b := hs.blk.cell 3 rfl; have g4b := hs.blk.cell 4 rfl; have HS3 := Lib.hid hs; clear hs) | (go_simp; go_at_call 14; refine (n2_put2 (by first | exact HS3.out | exact HS3.out.later (Mod.drew _ _)) HOK.out (by omega) f t wi mi pb HPB.out).mono ?_; rintro e wc ⟨rfl, hs⟩; have HS4 := Lib.hid hs; clear hs HS3 g1b g2b g3b g4b))
            all_goals
              go_wp2_with fail
              go_meet
              exact ⟨_, Nat.le_trans HPO.out.2 (by omega), HPO.out.1, by first | exact HS4.out | exact HS4.out.later (Mod.drew _ _)⟩
          case neg =>
            have x1 : (kd == 1) = false := by simpa using hk1
            clear hk1
            by_cases hk2 : kd = 2
            case neg =>
              have x2 : (kd == 2) = false := by simpa using hk2
              clear hk2
              go_wp2_with fail
              go_meet
              exact ⟨L, by omega, HOK.out, HDA.out⟩
            case pos =>
              have x2 : (kd == 2) = true := by simpa using hk2
              clear hk2
              go_wp2_with fail
              refine (n2_cut1 HDA.out v).mono ?_
              rintro e w5 ⟨rfl, hs⟩
              have g5b := hs.blk.cell 5 rfl
              have HS5 := Lib.hid hs
              clear hs HDA g0 g1 g2 g3 g4 g5
              go_wp2_with fail
              refine (n2_cut2 HS5.out (by omega) v).mono ?_
              rintro e w6 ⟨rfl, hs⟩
              have HS6 := Lib.hid hs
              clear hs HS5 g5b
              go_wp2_with fail
              go_meet
              exact ⟨cutN L v, Nat.le_trans (cutN_len L v) (by omega), HOK.out.cut v, HS6.out⟩
        case rest =>
          obtain ⟨M, hlen, hok, hs⟩ := hcut
          have HSC := Lib.hid hs
          have HKM := Lib.hid hok
          clear hs hok HDA HOK
          obtain ⟨F, G, hh⟩ := HSC.out
          have HNT := Lib.hid hh.nt
          have hrn := hh.rn
          have g0 := hh.hb.cell 0 rfl
          have g1 := hh.hb.cell 1 rfl
          have g2 := hh.hb.cell 2 rfl
          have HB := Lib.hid hh.hb
          have HRN := Lib.hid hrn.rn
          obtain ⟨ra, rc, rb, rr, _⟩ := hrn
          have HRB := Lib.hid rb
          have HRR := Lib.hid rr
          clear hh rb rr
          skip
          rcases find_case HKM.out.sort f t with ⟨b, hf1, hf2, hf3, hf4⟩ | ⟨hf1, hf2⟩
          · skip
            obtain ⟨bf, bt, bw, bm⟩ := b
            have HF4 := Lib.hid hf4
            clear hf4
            have HF1 := Lib.hid hf1
            have HF2 := Lib.hid hf2
            clear hf1 hf2
            go_wp2_with fail
            refine (nt_arc HNT.out f t).mono ?_
            rintro e w7 ⟨rfl, hm7⟩
            rw [HF1.out]
            unfold arcV arV
            have HM7 := Lib.hid hm7
            clear g0 g1 g2 hm7
            go_upto_region 21 with fail
            obtain ⟨bx, hbx⟩ : ∃ y, w7.heap.size = y := ⟨_, rfl⟩
            obtain ⟨w8, hw8⟩ : ∃ y, w7.alloc (.cells #[.int .i64 bf, .int .i64 bt, .int .i64 bw, .int .i64 bm] 32) = y := ⟨_, rfl⟩
            have hbb : Blk w8 bx 32 [.int .i64 bf, .int .i64 bt, .int .i64 bw, .int .i64 bm] := by rw [← hw8, ← hbx]; exact Blk.new w7 32 [.int .i64 bf, .int .i64 bt, .int .i64 bw, .int .i64 bm]
            have hm8 : Mod (fun _ => False) w7 w8 := by rw [← hw8]; exact Mod.alloc _ _ _
            have HM8 := Lib.hid (HM7.out.of2 hm8)
            have HBX := Lib.hid hbb
            (try rw [hw8])
            (try rw [hbx])
            clear hw8 hbx hbb hm8
            have hb8 := HB.out.keep HM8.out (fun e => e)
            have g1 := hb8.cell 1 rfl
            have g2 := hb8.cell 2 rfl
            have lg := hb8.lt
            clear hb8
            go_wp2_with fail
            refine (rn_find (HRN.out.later HM8.out) HKM.out.sort (by omega) f t).mono ?_
            rintro e w9 ⟨rfl, hm9⟩
            rw [HF2.out]
            obtain ⟨ps, hps⟩ : ∃ y, posN M ⟨f, t, 0, 0⟩ = y := ⟨_, rfl⟩
            rw [hps] at hf3 HF4 ⊢
            clear hps
            have HM9 := Lib.hid (HM8.out.of2 hm9)
            have HBY := Lib.hid (HBX.out.keep hm9 (fun e => e))
            clear hm9 g1 g2 lg
            go_upto_region 22 with fail
            have HS : Hid (Ev (Mod (fun _ => False) w9) w9) := Lib.hid (Ev.mod w9)
            replace HS := Lib.hid ((Ev.nt (HNT.out.later HM9.out)).and HS.out)
            replace HS := Lib.hid ((Ev.rn (HRN.out.later HM9.out)).and HS.out)
            replace HS := Lib.hid ((Ev.blk (HRB.out.keep HM9.out (fun e => e))).and HS.out)
            replace HS := Lib.hid ((Ev.rd (HRR.out.keep HM9.out (fun _ _ e => e))).and HS.out)
            replace HS := Lib.hid ((Ev.blk (HB.out.keep HM9.out (fun e => e))).and HS.out)
            replace HS := Lib.hid ((Ev.blk HBY.out).and HS.out)
            have hpR : ps < M.length := hf3
            have hme : M[ps] = ⟨bf, bt, bw, bm⟩ := by have h3 := HF4.out; rw [List.getElem?_eq_getElem hpR] at h3; exact Option.some.inj h3
            obtain ⟨eb, eo, hpe, e0, e1, e2, e3⟩ := rd4 (HRR.out.keep HM9.out (fun _ _ e => e)) ps hpR
            rw [hme] at e0 e1 e2 e3
            have hix := fun wx => run_indexS (P := Try.prog) wx 22 32 iA 4 Try.underlying22 hiA hsA ra M.length rc ps hf3 ((HRR.out).some_ (by omega))
            rw [hpe] at hix
            have HIe := Lib.hid hix
            clear hix hpe hme
            replace HS := Lib.hid ((Ev.cell e0).and HS.out)
            replace HS := Lib.hid ((Ev.cell e1).and HS.out)
            replace HS := Lib.hid ((Ev.cell e2).and HS.out)
            replace HS := Lib.hid ((Ev.cell e3).and HS.out)
            clear e0 e1 e2 e3
            have hbq := (HS.out.now).2.2.2.2.2.2.2.1
            have qq_0 := hbq.cell 0 rfl
            have qq_1 := hbq.cell 1 rfl
            have lq := hbq.lt
            clear hbq
            have hbg := (HS.out.now).2.2.2.2.2.1
            have qg_0 := hbg.cell 0 rfl
            have qg_1 := hbg.cell 1 rfl
            have qg_2 := hbg.cell 2 rfl
            have qg_3 := hbg.cell 3 rfl
            have qg_4 := hbg.cell 4 rfl
            have qg_5 := hbg.cell 5 rfl
            have lg := hbg.lt
            clear hbg
            have hbbx := (HS.out.now).2.2.2.2.1
            have qbx_0 := hbbx.cell 0 rfl
            have qbx_1 := hbbx.cell 1 rfl
            have qbx_2 := hbbx.cell 2 rfl
            have qbx_3 := hbbx.cell 3 rfl
            have lbx := hbbx.lt
            clear hbbx
            clear qq_0 qq_1 lq qg_0 qg_1 qg_2 qg_3 qg_4 qg_5 lg qbx_0 qbx_1 qbx_2 qbx_3 lbx
            have HSd := Lib.hid HS.out.drew
            refine wp_region_inv3 (act := ?actna_r22_1) (Mod (fun _ => False)) (fun i => (na_r22_1_F p q n g ra rc v bf bt bw bm eb eo ps M).getD i (fun _ _ => True)) (fun i => na_r22_1_D.getD i []) (by kernel_rfl) (by kernel_rfl) (by kernel_rfl) (by kernel_rfl) (fun _ => Mod.refl _ _)
              (fun _ _ _ h k => h.trans k (fun _ _ e => e) (fun _ _ e => e)) ?hactna_r22_1 (stable_list ?_) ?_ ?_
            case hactna_r22_1 => intro vs; simp only [putAll, Nat.zero_add, Nat.reduceAdd, Act.put, List.setIfInBounds_toArray, List.set_cons_succ, List.set_cons_zero]; exact rfl
            · unfold na_r22_1_F
              exact stable_cons (stable_val _) <| stable_cons (stable_val _) <| stable_cons (stable_val _) <| stable_cons (stable_val _) <| stable_cons (stable_val _) <| stable_cons (stable_val _) <| stable_cons (stable_val _) <| stable_cons (stable_val _) <| stable_cons (stable_val _) <| stable_cons (stable_val _) <| stable_cons (stable_val _) <| stable_cons (stable_val _) <| stable_cons (stable_val _) <| stable_cons (stable_val _) <| stable_cons (stable_val _) <| stable_cons (stable_val _) <| stable_cons (stable_val _) <| stable_cons (stable_val _) <| stable_cons (stable_val _) <| stable_cons (ArP.st _) <| stable_cons (stable_val _) <| stable_cons (stable_val _) <| stable_cons (stable_val _) <| stable_cons (stable_val _) <| stable_cons (stable_val _) <| stable_cons (stable_val _) <| stable_cons (stable_val _) <| stable_cons (stable_val _) <| stable_cons (stable_val _) <| stable_cons (stable_val _) <| stable_cons (stable_val _) <| stable_cons (ArP.st _) <| stable_cons (stable_val _) <| stable_cons (stable_val _) <| stable_cons (stable_val _) <| stable_cons (ArP.st _) <| stable_cons (stable_val _) <| stable_cons (stable_val _) <| stable_cons (stable_val _) <| stable_cons (stable_val _) <| stable_cons (stable_val _) <| stable_cons (stable_val _) <| stable_cons (stable_val _) <| stable_cons (ArP.st _) <| stable_cons (stable_val _) <| stable_cons (stable_val _) <| stable_cons (stable_val _) <| stable_cons (ArP.st _) <| stable_cons (stable_val _) <| stable_cons (stable_val _) <| stable_cons (stable_val _) <| stable_cons (stable_val _) <| stable_cons (stable_val _) <| stable_cons (stable_val _) <| stable_cons (stable_val _) <| stable_cons (stable_val _) <| stable_cons (stable_val _) <| stable_cons (stable_val _) <| stable_cons (stable_val _) <| stable_cons (stable_val _) <| stable_nil
            · refine opsOkA_cons ?_ ?_
              · intro K vs W hR hD hK
                clear hD
                try dsimp only at hK ⊢
                simp only [Act.put, List.setIfInBounds_toArray, List.set_cons_succ, List.set_cons_zero] at hK
                go_wp2
                exact hK _ _ rfl (Mod.refl _ _)
              refine opsOkA_cons ?_ ?_
              · intro K vs W hR hD hK
                clear hD
                try dsimp only at hK ⊢
                simp only [Act.put, List.setIfInBounds_toArray, List.set_cons_succ, List.set_cons_zero] at hK
                go_wp2
                exact hK _ _ rfl (Mod.refl _ _)
              refine opsOkA_cons ?_ ?_
              · intro K vs W hR hD hK
                have dq0 : vs 0 = .bool true := hD 0 (by decide)
                have dq1 : vs 1 = .bool true := hD 1 (by decide)
                clear hD
                try dsimp only at hK ⊢
                simp only [Act.put, List.setIfInBounds_toArray, List.set_cons_succ, List.set_cons_zero] at hK
                generalize vs 0 = vq0 at hK dq0 ⊢
                subst vq0
                generalize vs 1 = vq1 at hK dq1 ⊢
                subst vq1
                go_wp2
                exact hK _ _ rfl (Mod.refl _ _)
              refine opsOkA_cons ?_ ?_
              · intro K vs W hR hD hK
                have dq2 : vs 2 = .bool false := hD 2 (by decide)
                clear hD
                try dsimp only at hK ⊢
                simp only [Act.put, List.setIfInBounds_toArray, List.set_cons_succ, List.set_cons_zero] at hK
                generalize vs 2 = vq2 at hK dq2 ⊢
                subst vq2
                go_wp2
                exact hK _ _ rfl (Mod.refl _ _)
              refine opsOkA_cons ?_ ?_
              · intro K vs W hR hD hK
                have dq3 : vs 3 = .bool false := hD 3 (by decide)
                clear hD
                try dsimp only at hK ⊢
                simp only [Act.put, List.setIfInBounds_toArray, List.set_cons_succ, List.set_cons_zero] at hK
                generalize vs 3 = vq3 at hK dq3 ⊢
                subst vq3
                go_wp2
                exact hK _ _ rfl (Mod.refl _ _)
              refine opsOkA_cons ?_ ?_
              · intro K vs W hR hD hK
                have dq3 : vs 3 = .bool false := hD 3 (by decide)
                have dq4 : vs 4 = .bool true := hD 4 (by decide)
                clear hD
                try dsimp only at hK ⊢
                simp only [Act.put, List.setIfInBounds_toArray, List.set_cons_succ, List.set_cons_zero] at hK
                generalize vs 3 = vq3 at hK dq3 ⊢
                subst vq3
                generalize vs 4 = vq4 at hK dq4 ⊢
                subst vq4
                go_wp2
                exact hK _ _ rfl (Mod.refl _ _)
              refine opsOkA_cons ?_ ?_
              · intro K vs W hR hD hK
                have dq5 : vs 5 = .bool true := hD 5 (by decide)
                clear hD
                try dsimp only at hK ⊢
                simp only [Act.put, List.setIfInBounds_toArray, List.set_cons_succ, List.set_cons_zero] at hK
                generalize vs 5 = vq5 at hK dq5 ⊢
                subst vq5
                have hbx := (HSd.out.at (hR)).2.2.2.2.1
                have q0 := hbx.cell 0 rfl
                have q1 := hbx.cell 1 rfl
                have q2 := hbx.cell 2 rfl
                have q3 := hbx.cell 3 rfl
                go_wp2
                exact hK _ _ rfl (Mod.refl _ _)
              refine opsOkA_cons ?_ ?_
              · intro K vs W hR hD hK
                have dq5 : vs 5 = .bool true := hD 5 (by decide)
                clear hD
                try dsimp only at hK ⊢
                simp only [Act.put, List.setIfInBounds_toArray, List.set_cons_succ, List.set_cons_zero] at hK
                generalize vs 5 = vq5 at hK dq5 ⊢
                subst vq5
                go_wp2
                exact hK _ _ rfl (Mod.refl _ _)
              refine opsOkA_cons ?_ ?_
              · intro K vs W hR hD hK
                have dq5 : vs 5 = .bool true := hD 5 (by decide)
                have dq7 : vs 7 = .pointer (some ⟨q, 0, none⟩) := hD 7 (by decide)
                clear hD
                try dsimp only at hK ⊢
                simp only [Act.put, List.setIfInBounds_toArray, List.set_cons_succ, List.set_cons_zero] at hK
                generalize vs 5 = vq5 at hK dq5 ⊢
                subst vq5
                generalize vs 7 = vq7 at hK dq7 ⊢
                subst vq7
                go_wp2
                exact hK _ _ rfl (Mod.refl _ _)
              refine opsOkA_cons ?_ ?_
              · intro K vs W hR hD hK
                have dq5 : vs 5 = .bool true := hD 5 (by decide)
                have dq8 : vs 8 = .pointer (some ⟨q, 0, none⟩) := hD 8 (by decide)
                clear hD
                try dsimp only at hK ⊢
                simp only [Act.put, List.setIfInBounds_toArray, List.set_cons_succ, List.set_cons_zero] at hK
                generalize vs 5 = vq5 at hK dq5 ⊢
                subst vq5
                generalize vs 8 = vq8 at hK dq8 ⊢
                subst vq8
                go_wp2
                exact hK _ _ rfl (Mod.refl _ _)
              refine opsOkA_cons ?_ ?_
              · intro K vs W hR hD hK
                have dq5 : vs 5 = .bool true := hD 5 (by decide)
                have dq9 : vs 9 = .pointer (some ⟨q, 1, none⟩) := hD 9 (by decide)
                clear hD
                try dsimp only at hK ⊢
                simp only [Act.put, List.setIfInBounds_toArray, List.set_cons_succ, List.set_cons_zero] at hK
                generalize vs 5 = vq5 at hK dq5 ⊢
                subst vq5
                generalize vs 9 = vq9 at hK dq9 ⊢
                subst vq9
                have q0 := ((HSd.out.at (hR)).2.2.2.2.2.2.2.1).cell 1 rfl
                go_wp2
                exact hK _ _ rfl (Mod.refl _ _)
              refine opsOkA_cons ?_ ?_
              · intro K vs W hR hD hK
                have dq5 : vs 5 = .bool true := hD 5 (by decide)
                clear hD
                try dsimp only at hK ⊢
                simp only [Act.put, List.setIfInBounds_toArray, List.set_cons_succ, List.set_cons_zero] at hK
                generalize vs 5 = vq5 at hK dq5 ⊢
                subst vq5
                go_wp2
                exact hK _ _ rfl (Mod.refl _ _)
              refine opsOkA_cons ?_ ?_
              · intro K vs W hR hD hK
                have dq5 : vs 5 = .bool true := hD 5 (by decide)
                have dq10 : vs 10 = .slice ra M.length rc := hD 10 (by decide)
                have dq11 : vs 11 = .int .i64 (ps : Int) := hD 11 (by decide)
                clear hD
                try dsimp only at hK ⊢
                simp only [Act.put, List.setIfInBounds_toArray, List.set_cons_succ, List.set_cons_zero] at hK
                generalize vs 5 = vq5 at hK dq5 ⊢
                subst vq5
                generalize vs 10 = vq10 at hK dq10 ⊢
                subst vq10
                generalize vs 11 = vq11 at hK dq11 ⊢
                subst vq11
                have hix := HIe.out
                go_wp2_with fail
                exact hK _ _ rfl (Mod.refl _ _)
              refine opsOkA_cons ?_ ?_
              · intro K vs W hR hD hK
                have dq5 : vs 5 = .bool true := hD 5 (by decide)
                have dq12 : vs 12 = .pointer (some ⟨eb, eo, none⟩) := hD 12 (by decide)
                clear hD
                try dsimp only at hK ⊢
                simp only [Act.put, List.setIfInBounds_toArray, List.set_cons_succ, List.set_cons_zero] at hK
                generalize vs 5 = vq5 at hK dq5 ⊢
                subst vq5
                generalize vs 12 = vq12 at hK dq12 ⊢
                subst vq12
                have c0 := (HSd.out.at (hR)).2.2.2.1
                have c1 := (HSd.out.at (hR)).2.2.1
                have c2 := (HSd.out.at (hR)).2.1
                have c3 := (HSd.out.at (hR)).1
                go_wp2
                exact hK _ _ rfl (Mod.refl _ _)
              refine opsOkA_cons ?_ ?_
              · intro K vs W hR hD hK
                have dq5 : vs 5 = .bool true := hD 5 (by decide)
                have dq6 : vs 6 = .agg #[.int .i64 bf, .int .i64 bt, .int .i64 bw, .int .i64 bm] := hD 6 (by decide)
                have dq13 : vs 13 = .agg #[.int .i64 bf, .int .i64 bt, .int .i64 bw, .int .i64 bm] := hD 13 (by decide)
                clear hD
                try dsimp only at hK ⊢
                simp only [Act.put, List.setIfInBounds_toArray, List.set_cons_succ, List.set_cons_zero] at hK
                generalize vs 5 = vq5 at hK dq5 ⊢
                subst vq5
                generalize vs 6 = vq6 at hK dq6 ⊢
                subst vq6
                generalize vs 13 = vq13 at hK dq13 ⊢
                subst vq13
                go_wp2
                exact hK _ _ rfl (Mod.refl _ _)
              refine opsOkA_cons ?_ ?_
              · intro K vs W hR hD hK
                have dq3 : vs 3 = .bool false := hD 3 (by decide)
                have dq5 : vs 5 = .bool true := hD 5 (by decide)
                have dq14 : vs 14 = .bool false := hD 14 (by decide)
                clear hD
                try dsimp only at hK ⊢
                simp only [Act.put, List.setIfInBounds_toArray, List.set_cons_succ, List.set_cons_zero] at hK
                generalize vs 3 = vq3 at hK dq3 ⊢
                subst vq3
                generalize vs 5 = vq5 at hK dq5 ⊢
                subst vq5
                generalize vs 14 = vq14 at hK dq14 ⊢
                subst vq14
                go_wp2
                exact hK _ _ rfl (Mod.refl _ _)
              refine opsOkA_cons ?_ ?_
              · intro K vs W hR hD hK
                have dq3 : vs 3 = .bool false := hD 3 (by decide)
                have dq15 : vs 15 = .bool false := hD 15 (by decide)
                clear hD
                try dsimp only at hK ⊢
                simp only [Act.put, List.setIfInBounds_toArray, List.set_cons_succ, List.set_cons_zero] at hK
                generalize vs 3 = vq3 at hK dq3 ⊢
                subst vq3
                generalize vs 15 = vq15 at hK dq15 ⊢
                subst vq15
                go_wp2
                exact hK _ _ rfl (Mod.refl _ _)
              refine opsOkA_cons ?_ ?_
              · intro K vs W hR hD hK
                have dq16 : vs 16 = .bool false := hD 16 (by decide)
                clear hD
                try dsimp only at hK ⊢
                simp only [Act.put, List.setIfInBounds_toArray, List.set_cons_succ, List.set_cons_zero] at hK
                generalize vs 16 = vq16 at hK dq16 ⊢
                subst vq16
                go_wp2
                exact hK _ _ rfl (Mod.refl _ _)
              refine opsOkA_cons ?_ ?_
              · intro K vs W hR hD hK
                have dq17 : vs 17 = .bool false := hD 17 (by decide)
                clear hD
                try dsimp only at hK ⊢
                simp only [Act.put, List.setIfInBounds_toArray, List.set_cons_succ, List.set_cons_zero] at hK
                generalize vs 17 = vq17 at hK dq17 ⊢
                subst vq17
                go_wp2
                exact hK _ _ rfl (Mod.refl _ _)
              refine opsOkA_cons ?_ ?_
              · intro K vs W hR hD hK
                have dq17 : vs 17 = .bool false := hD 17 (by decide)
                have dq18 : vs 18 = .pointer (some ⟨p, 0, none⟩) := hD 18 (by decide)
                clear hD
                try dsimp only at hK ⊢
                simp only [Act.put, List.setIfInBounds_toArray, List.set_cons_succ, List.set_cons_zero] at hK
                generalize vs 17 = vq17 at hK dq17 ⊢
                subst vq17
                generalize vs 18 = vq18 at hK dq18 ⊢
                subst vq18
                go_wp2_with (go_at_call 20; refine (nt_all ((HSd.out.at (hR)).2.2.2.2.2.2.2.2.2.1)).mono ?_; rintro e' w' ⟨xa', xc', rfl, ho', hm'⟩)
                exact hK _ _ ⟨_, _, rfl, Rd.ofOwn ho'⟩ hm'
              refine opsOkA_cons ?_ ?_
              · intro K vs W hR hD hK
                have dq17 : vs 17 = .bool false := hD 17 (by decide)
                clear hD
                try dsimp only at hK ⊢
                simp only [Act.put, List.setIfInBounds_toArray, List.set_cons_succ, List.set_cons_zero] at hK
                generalize vs 17 = vq17 at hK dq17 ⊢
                subst vq17
                go_wp2
                exact hK _ _ rfl (Mod.refl _ _)
              refine opsOkA_cons ?_ ?_
              · intro K vs W hR hD hK
                have dq17 : vs 17 = .bool false := hD 17 (by decide)
                have dq20 : vs 20 = .pointer (some ⟨q, 0, none⟩) := hD 20 (by decide)
                clear hD
                try dsimp only at hK ⊢
                simp only [Act.put, List.setIfInBounds_toArray, List.set_cons_succ, List.set_cons_zero] at hK
                generalize vs 17 = vq17 at hK dq17 ⊢
                subst vq17
                generalize vs 20 = vq20 at hK dq20 ⊢
                subst vq20
                go_wp2
                exact hK _ _ rfl (Mod.refl _ _)
              refine opsOkA_cons ?_ ?_
              · intro K vs W hR hD hK
                have dq17 : vs 17 = .bool false := hD 17 (by decide)
                have dq21 : vs 21 = .pointer (some ⟨q, 0, none⟩) := hD 21 (by decide)
                clear hD
                try dsimp only at hK ⊢
                simp only [Act.put, List.setIfInBounds_toArray, List.set_cons_succ, List.set_cons_zero] at hK
                generalize vs 17 = vq17 at hK dq17 ⊢
                subst vq17
                generalize vs 21 = vq21 at hK dq21 ⊢
                subst vq21
                go_wp2
                exact hK _ _ rfl (Mod.refl _ _)
              refine opsOkA_cons ?_ ?_
              · intro K vs W hR hD hK
                have dq17 : vs 17 = .bool false := hD 17 (by decide)
                have dq22 : vs 22 = .pointer (some ⟨q, 1, none⟩) := hD 22 (by decide)
                clear hD
                try dsimp only at hK ⊢
                simp only [Act.put, List.setIfInBounds_toArray, List.set_cons_succ, List.set_cons_zero] at hK
                generalize vs 17 = vq17 at hK dq17 ⊢
                subst vq17
                generalize vs 22 = vq22 at hK dq22 ⊢
                subst vq22
                have q0 := ((HSd.out.at (hR)).2.2.2.2.2.2.2.1).cell 1 rfl
                go_wp2
                exact hK _ _ rfl (Mod.refl _ _)
              refine opsOkA_cons ?_ ?_
              · intro K vs W hR hD hK
                have dq17 : vs 17 = .bool false := hD 17 (by decide)
                have dq19 : (ArP (M)) (vs 19) W := hD 19 (by decide)
                have dq23 : vs 23 = .slice ra M.length rc := hD 23 (by decide)
                clear hD
                try dsimp only at hK ⊢
                simp only [Act.put, List.setIfInBounds_toArray, List.set_cons_succ, List.set_cons_zero] at hK
                generalize vs 17 = vq17 at hK dq17 ⊢
                subst vq17
                generalize vs 19 = vq19 at hK dq19 ⊢
                generalize vs 23 = vq23 at hK dq23 ⊢
                subst vq23
                obtain ⟨xa19, xc19, rfl, hr19⟩ := dq19
                go_wp2_with (go_at_call 19; refine (same13_any W M xa19 _ xc19 ra rc rfl (by omega) hr19 ((HSd.out.at (hR)).2.2.2.2.2.2.1)).mono ?_; rintro e' w' ⟨rfl, hm'⟩)
                exact hK _ _ rfl hm'
              refine opsOkA_cons ?_ ?_
              · intro K vs W hR hD hK
                have dq17 : vs 17 = .bool false := hD 17 (by decide)
                have dq24 : vs 24 = .bool true := hD 24 (by decide)
                clear hD
                try dsimp only at hK ⊢
                simp only [Act.put, List.setIfInBounds_toArray, List.set_cons_succ, List.set_cons_zero] at hK
                generalize vs 17 = vq17 at hK dq17 ⊢
                subst vq17
                generalize vs 24 = vq24 at hK dq24 ⊢
                subst vq24
                go_wp2
                exact hK _ _ rfl (Mod.refl _ _)
              refine opsOkA_cons ?_ ?_
              · intro K vs W hR hD hK
                have dq17 : vs 17 = .bool false := hD 17 (by decide)
                have dq25 : vs 25 = .bool false := hD 25 (by decide)
                clear hD
                try dsimp only at hK ⊢
                simp only [Act.put, List.setIfInBounds_toArray, List.set_cons_succ, List.set_cons_zero] at hK
                generalize vs 17 = vq17 at hK dq17 ⊢
                subst vq17
                generalize vs 25 = vq25 at hK dq25 ⊢
                subst vq25
                go_wp2
                exact hK _ _ rfl (Mod.refl _ _)
              refine opsOkA_cons ?_ ?_
              · intro K vs W hR hD hK
                have dq26 : vs 26 = .bool false := hD 26 (by decide)
                clear hD
                try dsimp only at hK ⊢
                simp only [Act.put, List.setIfInBounds_toArray, List.set_cons_succ, List.set_cons_zero] at hK
                generalize vs 26 = vq26 at hK dq26 ⊢
                subst vq26
                go_wp2
                exact hK _ _ rfl (Mod.refl _ _)
              refine opsOkA_cons ?_ ?_
              · intro K vs W hR hD hK
                have dq27 : vs 27 = .bool false := hD 27 (by decide)
                clear hD
                try dsimp only at hK ⊢
                simp only [Act.put, List.setIfInBounds_toArray, List.set_cons_succ, List.set_cons_zero] at hK
                generalize vs 27 = vq27 at hK dq27 ⊢
                subst vq27
                go_wp2
                exact hK _ _ rfl (Mod.refl _ _)
              refine opsOkA_cons ?_ ?_
              · intro K vs W hR hD hK
                have dq27 : vs 27 = .bool false := hD 27 (by decide)
                clear hD
                try dsimp only at hK ⊢
                simp only [Act.put, List.setIfInBounds_toArray, List.set_cons_succ, List.set_cons_zero] at hK
                generalize vs 27 = vq27 at hK dq27 ⊢
                subst vq27
                go_wp2
                exact hK _ _ rfl (Mod.refl _ _)
              refine opsOkA_cons ?_ ?_
              · intro K vs W hR hD hK
                have dq27 : vs 27 = .bool false := hD 27 (by decide)
                have dq29 : vs 29 = .pointer (some ⟨g, 5, none⟩) := hD 29 (by decide)
                clear hD
                try dsimp only at hK ⊢
                simp only [Act.put, List.setIfInBounds_toArray, List.set_cons_succ, List.set_cons_zero] at hK
                generalize vs 27 = vq27 at hK dq27 ⊢
                subst vq27
                generalize vs 29 = vq29 at hK dq29 ⊢
                subst vq29
                have q0 := ((HSd.out.at (hR)).2.2.2.2.2.1).cell 5 rfl
                go_wp2
                exact hK _ _ rfl (Mod.refl _ _)
              refine opsOkA_cons ?_ ?_
              · intro K vs W hR hD hK
                have dq27 : vs 27 = .bool false := hD 27 (by decide)
                have dq28 : vs 28 = .pointer (some ⟨p, 0, none⟩) := hD 28 (by decide)
                have dq30 : vs 30 = .int .i64 v := hD 30 (by decide)
                clear hD
                try dsimp only at hK ⊢
                simp only [Act.put, List.setIfInBounds_toArray, List.set_cons_succ, List.set_cons_zero] at hK
                generalize vs 27 = vq27 at hK dq27 ⊢
                subst vq27
                generalize vs 28 = vq28 at hK dq28 ⊢
                subst vq28
                generalize vs 30 = vq30 at hK dq30 ⊢
                subst vq30
                go_wp2_with (go_at_call 21; refine (nt_out ((HSd.out.at (hR)).2.2.2.2.2.2.2.2.2.1) v).mono ?_; rintro e' w' ⟨xa', xc', rfl, ho', hm'⟩)
                exact hK _ _ ⟨_, _, rfl, Rd.ofOwn ho'⟩ hm'
              refine opsOkA_cons ?_ ?_
              · intro K vs W hR hD hK
                have dq27 : vs 27 = .bool false := hD 27 (by decide)
                clear hD
                try dsimp only at hK ⊢
                simp only [Act.put, List.setIfInBounds_toArray, List.set_cons_succ, List.set_cons_zero] at hK
                generalize vs 27 = vq27 at hK dq27 ⊢
                subst vq27
                go_wp2
                exact hK _ _ rfl (Mod.refl _ _)
              refine opsOkA_cons ?_ ?_
              · intro K vs W hR hD hK
                have dq27 : vs 27 = .bool false := hD 27 (by decide)
                clear hD
                try dsimp only at hK ⊢
                simp only [Act.put, List.setIfInBounds_toArray, List.set_cons_succ, List.set_cons_zero] at hK
                generalize vs 27 = vq27 at hK dq27 ⊢
                subst vq27
                go_wp2
                exact hK _ _ rfl (Mod.refl _ _)
              refine opsOkA_cons ?_ ?_
              · intro K vs W hR hD hK
                have dq27 : vs 27 = .bool false := hD 27 (by decide)
                have dq33 : vs 33 = .pointer (some ⟨g, 5, none⟩) := hD 33 (by decide)
                clear hD
                try dsimp only at hK ⊢
                simp only [Act.put, List.setIfInBounds_toArray, List.set_cons_succ, List.set_cons_zero] at hK
                generalize vs 27 = vq27 at hK dq27 ⊢
                subst vq27
                generalize vs 33 = vq33 at hK dq33 ⊢
                subst vq33
                have q0 := ((HSd.out.at (hR)).2.2.2.2.2.1).cell 5 rfl
                go_wp2
                exact hK _ _ rfl (Mod.refl _ _)
              refine opsOkA_cons ?_ ?_
              · intro K vs W hR hD hK
                have dq27 : vs 27 = .bool false := hD 27 (by decide)
                have dq32 : vs 32 = .pointer (some ⟨q, 0, none⟩) := hD 32 (by decide)
                have dq34 : vs 34 = .int .i64 v := hD 34 (by decide)
                clear hD
                try dsimp only at hK ⊢
                simp only [Act.put, List.setIfInBounds_toArray, List.set_cons_succ, List.set_cons_zero] at hK
                generalize vs 27 = vq27 at hK dq27 ⊢
                subst vq27
                generalize vs 32 = vq32 at hK dq32 ⊢
                subst vq32
                generalize vs 34 = vq34 at hK dq34 ⊢
                subst vq34
                go_wp2_with (go_at_call 22; refine (rn_out ((HSd.out.at (hR)).2.2.2.2.2.2.2.2.1) HKM.out (by omega) v).mono ?_; rintro e' w' ⟨xa', xc', rfl, ho', hm'⟩)
                exact hK _ _ ⟨_, _, rfl, Rd.ofOwn ho'⟩ hm'
              refine opsOkA_cons ?_ ?_
              · intro K vs W hR hD hK
                have dq27 : vs 27 = .bool false := hD 27 (by decide)
                have dq31 : (ArP (outL M v)) (vs 31) W := hD 31 (by decide)
                have dq35 : (ArP (outL M v)) (vs 35) W := hD 35 (by decide)
                clear hD
                try dsimp only at hK ⊢
                simp only [Act.put, List.setIfInBounds_toArray, List.set_cons_succ, List.set_cons_zero] at hK
                generalize vs 27 = vq27 at hK dq27 ⊢
                subst vq27
                generalize vs 31 = vq31 at hK dq31 ⊢
                generalize vs 35 = vq35 at hK dq35 ⊢
                obtain ⟨xa31, xc31, rfl, hr31⟩ := dq31
                obtain ⟨xa35, xc35, rfl, hr35⟩ := dq35
                go_wp2_with (go_at_call 19; refine (same13_any W (outL M v) xa31 _ xc31 xa35 xc35 rfl (by have := List.length_filter_le (fun b : Ar => decide (b.f = v)) M; unfold outL; omega) hr31 hr35).mono ?_; rintro e' w' ⟨rfl, hm'⟩)
                exact hK _ _ rfl hm'
              refine opsOkA_cons ?_ ?_
              · intro K vs W hR hD hK
                have dq27 : vs 27 = .bool false := hD 27 (by decide)
                have dq36 : vs 36 = .bool true := hD 36 (by decide)
                clear hD
                try dsimp only at hK ⊢
                simp only [Act.put, List.setIfInBounds_toArray, List.set_cons_succ, List.set_cons_zero] at hK
                generalize vs 27 = vq27 at hK dq27 ⊢
                subst vq27
                generalize vs 36 = vq36 at hK dq36 ⊢
                subst vq36
                go_wp2
                exact hK _ _ rfl (Mod.refl _ _)
              refine opsOkA_cons ?_ ?_
              · intro K vs W hR hD hK
                have dq27 : vs 27 = .bool false := hD 27 (by decide)
                have dq37 : vs 37 = .bool false := hD 37 (by decide)
                clear hD
                try dsimp only at hK ⊢
                simp only [Act.put, List.setIfInBounds_toArray, List.set_cons_succ, List.set_cons_zero] at hK
                generalize vs 27 = vq27 at hK dq27 ⊢
                subst vq27
                generalize vs 37 = vq37 at hK dq37 ⊢
                subst vq37
                go_wp2
                exact hK _ _ rfl (Mod.refl _ _)
              refine opsOkA_cons ?_ ?_
              · intro K vs W hR hD hK
                have dq38 : vs 38 = .bool false := hD 38 (by decide)
                clear hD
                try dsimp only at hK ⊢
                simp only [Act.put, List.setIfInBounds_toArray, List.set_cons_succ, List.set_cons_zero] at hK
                generalize vs 38 = vq38 at hK dq38 ⊢
                subst vq38
                go_wp2
                exact hK _ _ rfl (Mod.refl _ _)
              refine opsOkA_cons ?_ ?_
              · intro K vs W hR hD hK
                have dq39 : vs 39 = .bool false := hD 39 (by decide)
                clear hD
                try dsimp only at hK ⊢
                simp only [Act.put, List.setIfInBounds_toArray, List.set_cons_succ, List.set_cons_zero] at hK
                generalize vs 39 = vq39 at hK dq39 ⊢
                subst vq39
                go_wp2
                exact hK _ _ rfl (Mod.refl _ _)
              refine opsOkA_cons ?_ ?_
              · intro K vs W hR hD hK
                have dq39 : vs 39 = .bool false := hD 39 (by decide)
                clear hD
                try dsimp only at hK ⊢
                simp only [Act.put, List.setIfInBounds_toArray, List.set_cons_succ, List.set_cons_zero] at hK
                generalize vs 39 = vq39 at hK dq39 ⊢
                subst vq39
                go_wp2
                exact hK _ _ rfl (Mod.refl _ _)
              refine opsOkA_cons ?_ ?_
              · intro K vs W hR hD hK
                have dq39 : vs 39 = .bool false := hD 39 (by decide)
                have dq41 : vs 41 = .pointer (some ⟨g, 5, none⟩) := hD 41 (by decide)
                clear hD
                try dsimp only at hK ⊢
                simp only [Act.put, List.setIfInBounds_toArray, List.set_cons_succ, List.set_cons_zero] at hK
                generalize vs 39 = vq39 at hK dq39 ⊢
                subst vq39
                generalize vs 41 = vq41 at hK dq41 ⊢
                subst vq41
                have q0 := ((HSd.out.at (hR)).2.2.2.2.2.1).cell 5 rfl
                go_wp2
                exact hK _ _ rfl (Mod.refl _ _)
              refine opsOkA_cons ?_ ?_
              · intro K vs W hR hD hK
                have dq39 : vs 39 = .bool false := hD 39 (by decide)
                have dq40 : vs 40 = .pointer (some ⟨p, 0, none⟩) := hD 40 (by decide)
                have dq42 : vs 42 = .int .i64 v := hD 42 (by decide)
                clear hD
                try dsimp only at hK ⊢
                simp only [Act.put, List.setIfInBounds_toArray, List.set_cons_succ, List.set_cons_zero] at hK
                generalize vs 39 = vq39 at hK dq39 ⊢
                subst vq39
                generalize vs 40 = vq40 at hK dq40 ⊢
                subst vq40
                generalize vs 42 = vq42 at hK dq42 ⊢
                subst vq42
                go_wp2_with (go_at_call 23; refine (nt_in ((HSd.out.at (hR)).2.2.2.2.2.2.2.2.2.1) v).mono ?_; rintro e' w' ⟨xa', xc', rfl, ho', hm'⟩)
                exact hK _ _ ⟨_, _, rfl, Rd.ofOwn ho'⟩ hm'
              refine opsOkA_cons ?_ ?_
              · intro K vs W hR hD hK
                have dq39 : vs 39 = .bool false := hD 39 (by decide)
                clear hD
                try dsimp only at hK ⊢
                simp only [Act.put, List.setIfInBounds_toArray, List.set_cons_succ, List.set_cons_zero] at hK
                generalize vs 39 = vq39 at hK dq39 ⊢
                subst vq39
                go_wp2
                exact hK _ _ rfl (Mod.refl _ _)
              refine opsOkA_cons ?_ ?_
              · intro K vs W hR hD hK
                have dq39 : vs 39 = .bool false := hD 39 (by decide)
                clear hD
                try dsimp only at hK ⊢
                simp only [Act.put, List.setIfInBounds_toArray, List.set_cons_succ, List.set_cons_zero] at hK
                generalize vs 39 = vq39 at hK dq39 ⊢
                subst vq39
                go_wp2
                exact hK _ _ rfl (Mod.refl _ _)
              refine opsOkA_cons ?_ ?_
              · intro K vs W hR hD hK
                have dq39 : vs 39 = .bool false := hD 39 (by decide)
                have dq45 : vs 45 = .pointer (some ⟨g, 5, none⟩) := hD 45 (by decide)
                clear hD
                try dsimp only at hK ⊢
                simp only [Act.put, List.setIfInBounds_toArray, List.set_cons_succ, List.set_cons_zero] at hK
                generalize vs 39 = vq39 at hK dq39 ⊢
                subst vq39
                generalize vs 45 = vq45 at hK dq45 ⊢
                subst vq45
                have q0 := ((HSd.out.at (hR)).2.2.2.2.2.1).cell 5 rfl
                go_wp2
                exact hK _ _ rfl (Mod.refl _ _)
              refine opsOkA_cons ?_ ?_
              · intro K vs W hR hD hK
                have dq39 : vs 39 = .bool false := hD 39 (by decide)
                have dq44 : vs 44 = .pointer (some ⟨q, 0, none⟩) := hD 44 (by decide)
                have dq46 : vs 46 = .int .i64 v := hD 46 (by decide)
                clear hD
                try dsimp only at hK ⊢
                simp only [Act.put, List.setIfInBounds_toArray, List.set_cons_succ, List.set_cons_zero] at hK
                generalize vs 39 = vq39 at hK dq39 ⊢
                subst vq39
                generalize vs 44 = vq44 at hK dq44 ⊢
                subst vq44
                generalize vs 46 = vq46 at hK dq46 ⊢
                subst vq46
                go_wp2_with (go_at_call 24; refine (rn_in ((HSd.out.at (hR)).2.2.2.2.2.2.2.2.1) (by omega) v).mono ?_; rintro e' w' ⟨xa', xc', rfl, ho', hm'⟩)
                exact hK _ _ ⟨_, _, rfl, Rd.ofOwn ho'⟩ hm'
              refine opsOkA_cons ?_ ?_
              · intro K vs W hR hD hK
                have dq39 : vs 39 = .bool false := hD 39 (by decide)
                have dq43 : (ArP (inL M v)) (vs 43) W := hD 43 (by decide)
                have dq47 : (ArP (inL M v)) (vs 47) W := hD 47 (by decide)
                clear hD
                try dsimp only at hK ⊢
                simp only [Act.put, List.setIfInBounds_toArray, List.set_cons_succ, List.set_cons_zero] at hK
                generalize vs 39 = vq39 at hK dq39 ⊢
                subst vq39
                generalize vs 43 = vq43 at hK dq43 ⊢
                generalize vs 47 = vq47 at hK dq47 ⊢
                obtain ⟨xa43, xc43, rfl, hr43⟩ := dq43
                obtain ⟨xa47, xc47, rfl, hr47⟩ := dq47
                go_wp2_with (go_at_call 19; refine (same13_any W (inL M v) xa43 _ xc43 xa47 xc47 rfl (by have := List.length_filter_le (fun b : Ar => decide (b.t = v)) M; unfold inL; omega) hr43 hr47).mono ?_; rintro e' w' ⟨rfl, hm'⟩)
                exact hK _ _ rfl hm'
              refine opsOkA_cons ?_ ?_
              · intro K vs W hR hD hK
                have dq39 : vs 39 = .bool false := hD 39 (by decide)
                have dq48 : vs 48 = .bool true := hD 48 (by decide)
                clear hD
                try dsimp only at hK ⊢
                simp only [Act.put, List.setIfInBounds_toArray, List.set_cons_succ, List.set_cons_zero] at hK
                generalize vs 39 = vq39 at hK dq39 ⊢
                subst vq39
                generalize vs 48 = vq48 at hK dq48 ⊢
                subst vq48
                go_wp2
                exact hK _ _ rfl (Mod.refl _ _)
              refine opsOkA_cons ?_ ?_
              · intro K vs W hR hD hK
                have dq39 : vs 39 = .bool false := hD 39 (by decide)
                have dq49 : vs 49 = .bool false := hD 49 (by decide)
                clear hD
                try dsimp only at hK ⊢
                simp only [Act.put, List.setIfInBounds_toArray, List.set_cons_succ, List.set_cons_zero] at hK
                generalize vs 39 = vq39 at hK dq39 ⊢
                subst vq39
                generalize vs 49 = vq49 at hK dq49 ⊢
                subst vq49
                go_wp2
                exact hK _ _ rfl (Mod.refl _ _)
              refine opsOkA_cons ?_ ?_
              · intro K vs W hR hD hK
                have dq50 : vs 50 = .bool false := hD 50 (by decide)
                clear hD
                try dsimp only at hK ⊢
                simp only [Act.put, List.setIfInBounds_toArray, List.set_cons_succ, List.set_cons_zero] at hK
                generalize vs 50 = vq50 at hK dq50 ⊢
                subst vq50
                go_wp2
                exact hK _ _ rfl (Mod.refl _ _)
              refine opsOkA_cons ?_ ?_
              · intro K vs W hR hD hK
                have dq51 : vs 51 = .bool false := hD 51 (by decide)
                clear hD
                try dsimp only at hK ⊢
                simp only [Act.put, List.setIfInBounds_toArray, List.set_cons_succ, List.set_cons_zero] at hK
                generalize vs 51 = vq51 at hK dq51 ⊢
                subst vq51
                go_wp2
                exact hK _ _ rfl (Mod.refl _ _)
              refine opsOkA_cons ?_ ?_
              · intro K vs W hR hD hK
                have dq51 : vs 51 = .bool false := hD 51 (by decide)
                have dq52 : vs 52 = .pointer (some ⟨p, 0, none⟩) := hD 52 (by decide)
                clear hD
                try dsimp only at hK ⊢
                simp only [Act.put, List.setIfInBounds_toArray, List.set_cons_succ, List.set_cons_zero] at hK
                generalize vs 51 = vq51 at hK dq51 ⊢
                subst vq51
                generalize vs 52 = vq52 at hK dq52 ⊢
                subst vq52
                go_wp2_with (go_at_call 25; refine (nt_len ((HSd.out.at (hR)).2.2.2.2.2.2.2.2.2.1)).mono ?_; rintro e' w' ⟨rfl, rfl⟩)
                exact hK _ _ rfl (Mod.refl _ _)
              refine opsOkA_cons ?_ ?_
              · intro K vs W hR hD hK
                have dq51 : vs 51 = .bool false := hD 51 (by decide)
                clear hD
                try dsimp only at hK ⊢
                simp only [Act.put, List.setIfInBounds_toArray, List.set_cons_succ, List.set_cons_zero] at hK
                generalize vs 51 = vq51 at hK dq51 ⊢
                subst vq51
                go_wp2
                exact hK _ _ rfl (Mod.refl _ _)
              refine opsOkA_cons ?_ ?_
              · intro K vs W hR hD hK
                have dq51 : vs 51 = .bool false := hD 51 (by decide)
                have dq54 : vs 54 = .pointer (some ⟨q, 0, none⟩) := hD 54 (by decide)
                clear hD
                try dsimp only at hK ⊢
                simp only [Act.put, List.setIfInBounds_toArray, List.set_cons_succ, List.set_cons_zero] at hK
                generalize vs 51 = vq51 at hK dq51 ⊢
                subst vq51
                generalize vs 54 = vq54 at hK dq54 ⊢
                subst vq54
                go_wp2
                exact hK _ _ rfl (Mod.refl _ _)
              refine opsOkA_cons ?_ ?_
              · intro K vs W hR hD hK
                have dq51 : vs 51 = .bool false := hD 51 (by decide)
                have dq55 : vs 55 = .pointer (some ⟨q, 0, none⟩) := hD 55 (by decide)
                clear hD
                try dsimp only at hK ⊢
                simp only [Act.put, List.setIfInBounds_toArray, List.set_cons_succ, List.set_cons_zero] at hK
                generalize vs 51 = vq51 at hK dq51 ⊢
                subst vq51
                generalize vs 55 = vq55 at hK dq55 ⊢
                subst vq55
                go_wp2
                exact hK _ _ rfl (Mod.refl _ _)
              refine opsOkA_cons ?_ ?_
              · intro K vs W hR hD hK
                have dq51 : vs 51 = .bool false := hD 51 (by decide)
                have dq56 : vs 56 = .pointer (some ⟨q, 0, none⟩) := hD 56 (by decide)
                clear hD
                try dsimp only at hK ⊢
                simp only [Act.put, List.setIfInBounds_toArray, List.set_cons_succ, List.set_cons_zero] at hK
                generalize vs 51 = vq51 at hK dq51 ⊢
                subst vq51
                generalize vs 56 = vq56 at hK dq56 ⊢
                subst vq56
                have q0 := ((HSd.out.at (hR)).2.2.2.2.2.2.2.1).cell 0 rfl
                go_wp2
                exact hK _ _ rfl (Mod.refl _ _)
              refine opsOkA_cons ?_ ?_
              · intro K vs W hR hD hK
                have dq51 : vs 51 = .bool false := hD 51 (by decide)
                have dq53 : vs 53 = .int .i64 (n : Int) := hD 53 (by decide)
                have dq57 : vs 57 = .int .i64 (n : Int) := hD 57 (by decide)
                clear hD
                try dsimp only at hK ⊢
                simp only [Act.put, List.setIfInBounds_toArray, List.set_cons_succ, List.set_cons_zero] at hK
                generalize vs 51 = vq51 at hK dq51 ⊢
                subst vq51
                generalize vs 53 = vq53 at hK dq53 ⊢
                subst vq53
                generalize vs 57 = vq57 at hK dq57 ⊢
                subst vq57
                go_wp2
                exact hK _ _ rfl (Mod.refl _ _)
              refine opsOkA_cons ?_ ?_
              · intro K vs W hR hD hK
                have dq51 : vs 51 = .bool false := hD 51 (by decide)
                have dq58 : vs 58 = .bool false := hD 58 (by decide)
                clear hD
                try dsimp only at hK ⊢
                simp only [Act.put, List.setIfInBounds_toArray, List.set_cons_succ, List.set_cons_zero] at hK
                generalize vs 51 = vq51 at hK dq51 ⊢
                subst vq51
                generalize vs 58 = vq58 at hK dq58 ⊢
                subst vq58
                go_wp2
                exact hK _ _ rfl (Mod.refl _ _)
              exact opsOkA_nil
            · intro vs wq2 hR hF
              have dq59 : vs 59 = .bool false := hF 59 (by decide)
              clear hF
              try dsimp only
              generalize vs 59 = vq59 at dq59 ⊢
              subst dq59
              replace HS := Lib.hid (HSd.out.step hR)
              clear HSd hR
              have hbq := (HS.out.now).2.2.2.2.2.2.2.1
              have qq_0 := hbq.cell 0 rfl
              have qq_1 := hbq.cell 1 rfl
              have lq := hbq.lt
              clear hbq
              have hbg := (HS.out.now).2.2.2.2.2.1
              have qg_0 := hbg.cell 0 rfl
              have qg_1 := hbg.cell 1 rfl
              have qg_2 := hbg.cell 2 rfl
              have qg_3 := hbg.cell 3 rfl
              have qg_4 := hbg.cell 4 rfl
              have qg_5 := hbg.cell 5 rfl
              have lg := hbg.lt
              clear hbg
              have hbbx := (HS.out.now).2.2.2.2.1
              have qbx_0 := hbbx.cell 0 rfl
              have qbx_1 := hbbx.cell 1 rfl
              have qbx_2 := hbbx.cell 2 rfl
              have qbx_3 := hbbx.cell 3 rfl
              have lbx := hbbx.lt
              clear hbbx
              go_wp2_with fail
              go_roundw
              case rel =>
                obtain ⟨F2, G2, hh⟩ := HSC.out.later (HM9.out.of2 (HS.out.now).2.2.2.2.2.2.2.2.2.2)
                exact ⟨k + 1, M, F2, G2, by go_num, hlt, by omega, hh.nt, hh.rn, fun j hj => ⟨(hh.hf j hj).1, (hh.hf j hj).2.1, (hh.hf j hj).2.2.1⟩, hh.hg, hh.hq.1, hh.md⟩
              case measure => simp [intOf]; omega
          · skip
            have HF1 := Lib.hid hf1
            have HF2 := Lib.hid hf2
            clear hf1 hf2
            go_wp2_with fail
            refine (nt_arc HNT.out f t).mono ?_
            rintro e w7 ⟨rfl, hm7⟩
            rw [HF1.out]
            unfold arcV
            have HM7 := Lib.hid hm7
            clear g0 g1 g2 hm7
            go_upto_region 21 with fail
            obtain ⟨bx, hbx⟩ : ∃ y, w7.heap.size = y := ⟨_, rfl⟩
            obtain ⟨w8, hw8⟩ : ∃ y, w7.alloc (.cells #[.int .i64 0, .int .i64 0, .int .i64 0, .int .i64 0] 32) = y := ⟨_, rfl⟩
            have hbb : Blk w8 bx 32 [.int .i64 0, .int .i64 0, .int .i64 0, .int .i64 0] := by rw [← hw8, ← hbx]; exact Blk.new w7 32 [.int .i64 0, .int .i64 0, .int .i64 0, .int .i64 0]
            have hm8 : Mod (fun _ => False) w7 w8 := by rw [← hw8]; exact Mod.alloc _ _ _
            have HM8 := Lib.hid (HM7.out.of2 hm8)
            have HBX := Lib.hid hbb
            (try rw [hw8])
            (try rw [hbx])
            clear hw8 hbx hbb hm8
            have hb8 := HB.out.keep HM8.out (fun e => e)
            have g1 := hb8.cell 1 rfl
            have g2 := hb8.cell 2 rfl
            have lg := hb8.lt
            clear hb8
            go_wp2_with fail
            refine (rn_find (HRN.out.later HM8.out) HKM.out.sort (by omega) f t).mono ?_
            rintro e w9 ⟨rfl, hm9⟩
            rw [HF2.out]
            obtain ⟨ps, hps⟩ : ∃ y, posN M ⟨f, t, 0, 0⟩ = y := ⟨_, rfl⟩
            rw [hps]
            clear hps
            have HM9 := Lib.hid (HM8.out.of2 hm9)
            have HBY := Lib.hid (HBX.out.keep hm9 (fun e => e))
            clear hm9 g1 g2 lg
            go_upto_region 22 with fail
            have HS : Hid (Ev (Mod (fun _ => False) w9) w9) := Lib.hid (Ev.mod w9)
            replace HS := Lib.hid ((Ev.nt (HNT.out.later HM9.out)).and HS.out)
            replace HS := Lib.hid ((Ev.rn (HRN.out.later HM9.out)).and HS.out)
            replace HS := Lib.hid ((Ev.blk (HRB.out.keep HM9.out (fun e => e))).and HS.out)
            replace HS := Lib.hid ((Ev.rd (HRR.out.keep HM9.out (fun _ _ e => e))).and HS.out)
            replace HS := Lib.hid ((Ev.blk (HB.out.keep HM9.out (fun e => e))).and HS.out)
            replace HS := Lib.hid ((Ev.blk HBY.out).and HS.out)
            have hbq := (HS.out.now).2.2.2.1
            have qq_0 := hbq.cell 0 rfl
            have qq_1 := hbq.cell 1 rfl
            have lq := hbq.lt
            clear hbq
            have hbg := (HS.out.now).2.1
            have qg_0 := hbg.cell 0 rfl
            have qg_1 := hbg.cell 1 rfl
            have qg_2 := hbg.cell 2 rfl
            have qg_3 := hbg.cell 3 rfl
            have qg_4 := hbg.cell 4 rfl
            have qg_5 := hbg.cell 5 rfl
            have lg := hbg.lt
            clear hbg
            have hbbx := (HS.out.now).1
            have qbx_0 := hbbx.cell 0 rfl
            have qbx_1 := hbbx.cell 1 rfl
            have qbx_2 := hbbx.cell 2 rfl
            have qbx_3 := hbbx.cell 3 rfl
            have lbx := hbbx.lt
            clear hbbx
            clear qq_0 qq_1 lq qg_0 qg_1 qg_2 qg_3 qg_4 qg_5 lg qbx_0 qbx_1 qbx_2 qbx_3 lbx
            have HSd := Lib.hid HS.out.drew
            refine wp_region_inv3 (act := ?actna_r22_2) (Mod (fun _ => False)) (fun i => (na_r22_2_F p q n g ra rc v M).getD i (fun _ _ => True)) (fun i => na_r22_2_D.getD i []) (by kernel_rfl) (by kernel_rfl) (by kernel_rfl) (by kernel_rfl) (fun _ => Mod.refl _ _)
              (fun _ _ _ h k => h.trans k (fun _ _ e => e) (fun _ _ e => e)) ?hactna_r22_2 (stable_list ?_) ?_ ?_
            case hactna_r22_2 => intro vs; simp only [putAll, Nat.zero_add, Nat.reduceAdd, Act.put, List.setIfInBounds_toArray, List.set_cons_succ, List.set_cons_zero]; exact rfl
            · unfold na_r22_2_F
              exact stable_cons (stable_val _) <| stable_cons (stable_val _) <| stable_cons (stable_val _) <| stable_cons (stable_val _) <| stable_cons (stable_val _) <| stable_cons (stable_val _) <| stable_cons (stable_val _) <| stable_cons (stable_val _) <| stable_cons (stable_val _) <| stable_cons (stable_val _) <| stable_cons (stable_val _) <| stable_cons (stable_val _) <| stable_cons (stable_val _) <| stable_cons (stable_val _) <| stable_cons (stable_val _) <| stable_cons (stable_val _) <| stable_cons (stable_val _) <| stable_cons (stable_val _) <| stable_cons (stable_val _) <| stable_cons (ArP.st _) <| stable_cons (stable_val _) <| stable_cons (stable_val _) <| stable_cons (stable_val _) <| stable_cons (stable_val _) <| stable_cons (stable_val _) <| stable_cons (stable_val _) <| stable_cons (stable_val _) <| stable_cons (stable_val _) <| stable_cons (stable_val _) <| stable_cons (stable_val _) <| stable_cons (stable_val _) <| stable_cons (ArP.st _) <| stable_cons (stable_val _) <| stable_cons (stable_val _) <| stable_cons (stable_val _) <| stable_cons (ArP.st _) <| stable_cons (stable_val _) <| stable_cons (stable_val _) <| stable_cons (stable_val _) <| stable_cons (stable_val _) <| stable_cons (stable_val _) <| stable_cons (stable_val _) <| stable_cons (stable_val _) <| stable_cons (ArP.st _) <| stable_cons (stable_val _) <| stable_cons (stable_val _) <| stable_cons (stable_val _) <| stable_cons (ArP.st _) <| stable_cons (stable_val _) <| stable_cons (stable_val _) <| stable_cons (stable_val _) <| stable_cons (stable_val _) <| stable_cons (stable_val _) <| stable_cons (stable_val _) <| stable_cons (stable_val _) <| stable_cons (stable_val _) <| stable_cons (stable_val _) <| stable_cons (stable_val _) <| stable_cons (stable_val _) <| stable_cons (stable_val _) <| stable_nil
            · refine opsOkA_cons ?_ ?_
              · intro K vs W hR hD hK
                clear hD
                try dsimp only at hK ⊢
                simp only [Act.put, List.setIfInBounds_toArray, List.set_cons_succ, List.set_cons_zero] at hK
                go_wp2
                exact hK _ _ rfl (Mod.refl _ _)
              refine opsOkA_cons ?_ ?_
              · intro K vs W hR hD hK
                clear hD
                try dsimp only at hK ⊢
                simp only [Act.put, List.setIfInBounds_toArray, List.set_cons_succ, List.set_cons_zero] at hK
                go_wp2
                exact hK _ _ rfl (Mod.refl _ _)
              refine opsOkA_cons ?_ ?_
              · intro K vs W hR hD hK
                have dq0 : vs 0 = .bool false := hD 0 (by decide)
                have dq1 : vs 1 = .bool false := hD 1 (by decide)
                clear hD
                try dsimp only at hK ⊢
                simp only [Act.put, List.setIfInBounds_toArray, List.set_cons_succ, List.set_cons_zero] at hK
                generalize vs 0 = vq0 at hK dq0 ⊢
                subst vq0
                generalize vs 1 = vq1 at hK dq1 ⊢
                subst vq1
                go_wp2
                exact hK _ _ rfl (Mod.refl _ _)
              refine opsOkA_cons ?_ ?_
              · intro K vs W hR hD hK
                have dq2 : vs 2 = .bool false := hD 2 (by decide)
                clear hD
                try dsimp only at hK ⊢
                simp only [Act.put, List.setIfInBounds_toArray, List.set_cons_succ, List.set_cons_zero] at hK
                generalize vs 2 = vq2 at hK dq2 ⊢
                subst vq2
                go_wp2
                exact hK _ _ rfl (Mod.refl _ _)
              refine opsOkA_cons ?_ ?_
              · intro K vs W hR hD hK
                have dq3 : vs 3 = .bool false := hD 3 (by decide)
                clear hD
                try dsimp only at hK ⊢
                simp only [Act.put, List.setIfInBounds_toArray, List.set_cons_succ, List.set_cons_zero] at hK
                generalize vs 3 = vq3 at hK dq3 ⊢
                subst vq3
                go_wp2
                exact hK _ _ rfl (Mod.refl _ _)
              refine opsOkA_cons ?_ ?_
              · intro K vs W hR hD hK
                have dq3 : vs 3 = .bool false := hD 3 (by decide)
                have dq4 : vs 4 = .bool false := hD 4 (by decide)
                clear hD
                try dsimp only at hK ⊢
                simp only [Act.put, List.setIfInBounds_toArray, List.set_cons_succ, List.set_cons_zero] at hK
                generalize vs 3 = vq3 at hK dq3 ⊢
                subst vq3
                generalize vs 4 = vq4 at hK dq4 ⊢
                subst vq4
                go_wp2
                exact hK _ _ rfl (Mod.refl _ _)
              refine opsOkA_cons ?_ ?_
              · intro K vs W hR hD hK
                have dq5 : vs 5 = .bool false := hD 5 (by decide)
                clear hD
                try dsimp only at hK ⊢
                simp only [Act.put, List.setIfInBounds_toArray, List.set_cons_succ, List.set_cons_zero] at hK
                generalize vs 5 = vq5 at hK dq5 ⊢
                subst vq5
                go_wp2
                exact hK _ _ rfl (Mod.refl _ _)
              refine opsOkA_cons ?_ ?_
              · intro K vs W hR hD hK
                have dq5 : vs 5 = .bool false := hD 5 (by decide)
                clear hD
                try dsimp only at hK ⊢
                simp only [Act.put, List.setIfInBounds_toArray, List.set_cons_succ, List.set_cons_zero] at hK
                generalize vs 5 = vq5 at hK dq5 ⊢
                subst vq5
                go_wp2
                exact hK _ _ rfl (Mod.refl _ _)
              refine opsOkA_cons ?_ ?_
              · intro K vs W hR hD hK
                have dq5 : vs 5 = .bool false := hD 5 (by decide)
                clear hD
                try dsimp only at hK ⊢
                simp only [Act.put, List.setIfInBounds_toArray, List.set_cons_succ, List.set_cons_zero] at hK
                generalize vs 5 = vq5 at hK dq5 ⊢
                subst vq5
                go_wp2
                exact hK _ _ rfl (Mod.refl _ _)
              refine opsOkA_cons ?_ ?_
              · intro K vs W hR hD hK
                have dq5 : vs 5 = .bool false := hD 5 (by decide)
                clear hD
                try dsimp only at hK ⊢
                simp only [Act.put, List.setIfInBounds_toArray, List.set_cons_succ, List.set_cons_zero] at hK
                generalize vs 5 = vq5 at hK dq5 ⊢
                subst vq5
                go_wp2
                exact hK _ _ rfl (Mod.refl _ _)
              refine opsOkA_cons ?_ ?_
              · intro K vs W hR hD hK
                have dq5 : vs 5 = .bool false := hD 5 (by decide)
                clear hD
                try dsimp only at hK ⊢
                simp only [Act.put, List.setIfInBounds_toArray, List.set_cons_succ, List.set_cons_zero] at hK
                generalize vs 5 = vq5 at hK dq5 ⊢
                subst vq5
                go_wp2
                exact hK _ _ rfl (Mod.refl _ _)
              refine opsOkA_cons ?_ ?_
              · intro K vs W hR hD hK
                have dq5 : vs 5 = .bool false := hD 5 (by decide)
                clear hD
                try dsimp only at hK ⊢
                simp only [Act.put, List.setIfInBounds_toArray, List.set_cons_succ, List.set_cons_zero] at hK
                generalize vs 5 = vq5 at hK dq5 ⊢
                subst vq5
                go_wp2
                exact hK _ _ rfl (Mod.refl _ _)
              refine opsOkA_cons ?_ ?_
              · intro K vs W hR hD hK
                have dq5 : vs 5 = .bool false := hD 5 (by decide)
                clear hD
                try dsimp only at hK ⊢
                simp only [Act.put, List.setIfInBounds_toArray, List.set_cons_succ, List.set_cons_zero] at hK
                generalize vs 5 = vq5 at hK dq5 ⊢
                subst vq5
                go_wp2_with fail
                exact hK _ _ rfl (Mod.refl _ _)
              refine opsOkA_cons ?_ ?_
              · intro K vs W hR hD hK
                have dq5 : vs 5 = .bool false := hD 5 (by decide)
                clear hD
                try dsimp only at hK ⊢
                simp only [Act.put, List.setIfInBounds_toArray, List.set_cons_succ, List.set_cons_zero] at hK
                generalize vs 5 = vq5 at hK dq5 ⊢
                subst vq5
                go_wp2
                exact hK _ _ rfl (Mod.refl _ _)
              refine opsOkA_cons ?_ ?_
              · intro K vs W hR hD hK
                have dq5 : vs 5 = .bool false := hD 5 (by decide)
                clear hD
                try dsimp only at hK ⊢
                simp only [Act.put, List.setIfInBounds_toArray, List.set_cons_succ, List.set_cons_zero] at hK
                generalize vs 5 = vq5 at hK dq5 ⊢
                subst vq5
                go_wp2
                exact hK _ _ rfl (Mod.refl _ _)
              refine opsOkA_cons ?_ ?_
              · intro K vs W hR hD hK
                have dq3 : vs 3 = .bool false := hD 3 (by decide)
                have dq5 : vs 5 = .bool false := hD 5 (by decide)
                have dq14 : vs 14 = undef := hD 14 (by decide)
                clear hD
                try dsimp only at hK ⊢
                simp only [Act.put, List.setIfInBounds_toArray, List.set_cons_succ, List.set_cons_zero] at hK
                generalize vs 3 = vq3 at hK dq3 ⊢
                subst vq3
                generalize vs 5 = vq5 at hK dq5 ⊢
                subst vq5
                generalize vs 14 = vq14 at hK dq14 ⊢
                subst vq14
                go_wp2
                exact hK _ _ rfl (Mod.refl _ _)
              refine opsOkA_cons ?_ ?_
              · intro K vs W hR hD hK
                have dq3 : vs 3 = .bool false := hD 3 (by decide)
                have dq15 : vs 15 = .bool false := hD 15 (by decide)
                clear hD
                try dsimp only at hK ⊢
                simp only [Act.put, List.setIfInBounds_toArray, List.set_cons_succ, List.set_cons_zero] at hK
                generalize vs 3 = vq3 at hK dq3 ⊢
                subst vq3
                generalize vs 15 = vq15 at hK dq15 ⊢
                subst vq15
                go_wp2
                exact hK _ _ rfl (Mod.refl _ _)
              refine opsOkA_cons ?_ ?_
              · intro K vs W hR hD hK
                have dq16 : vs 16 = .bool false := hD 16 (by decide)
                clear hD
                try dsimp only at hK ⊢
                simp only [Act.put, List.setIfInBounds_toArray, List.set_cons_succ, List.set_cons_zero] at hK
                generalize vs 16 = vq16 at hK dq16 ⊢
                subst vq16
                go_wp2
                exact hK _ _ rfl (Mod.refl _ _)
              refine opsOkA_cons ?_ ?_
              · intro K vs W hR hD hK
                have dq17 : vs 17 = .bool false := hD 17 (by decide)
                clear hD
                try dsimp only at hK ⊢
                simp only [Act.put, List.setIfInBounds_toArray, List.set_cons_succ, List.set_cons_zero] at hK
                generalize vs 17 = vq17 at hK dq17 ⊢
                subst vq17
                go_wp2
                exact hK _ _ rfl (Mod.refl _ _)
              refine opsOkA_cons ?_ ?_
              · intro K vs W hR hD hK
                have dq17 : vs 17 = .bool false := hD 17 (by decide)
                have dq18 : vs 18 = .pointer (some ⟨p, 0, none⟩) := hD 18 (by decide)
                clear hD
                try dsimp only at hK ⊢
                simp only [Act.put, List.setIfInBounds_toArray, List.set_cons_succ, List.set_cons_zero] at hK
                generalize vs 17 = vq17 at hK dq17 ⊢
                subst vq17
                generalize vs 18 = vq18 at hK dq18 ⊢
                subst vq18
                go_wp2_with (go_at_call 20; refine (nt_all ((HSd.out.at (hR)).2.2.2.2.2.1)).mono ?_; rintro e' w' ⟨xa', xc', rfl, ho', hm'⟩)
                exact hK _ _ ⟨_, _, rfl, Rd.ofOwn ho'⟩ hm'
              refine opsOkA_cons ?_ ?_
              · intro K vs W hR hD hK
                have dq17 : vs 17 = .bool false := hD 17 (by decide)
                clear hD
                try dsimp only at hK ⊢
                simp only [Act.put, List.setIfInBounds_toArray, List.set_cons_succ, List.set_cons_zero] at hK
                generalize vs 17 = vq17 at hK dq17 ⊢
                subst vq17
                go_wp2
                exact hK _ _ rfl (Mod.refl _ _)
              refine opsOkA_cons ?_ ?_
              · intro K vs W hR hD hK
                have dq17 : vs 17 = .bool false := hD 17 (by decide)
                have dq20 : vs 20 = .pointer (some ⟨q, 0, none⟩) := hD 20 (by decide)
                clear hD
                try dsimp only at hK ⊢
                simp only [Act.put, List.setIfInBounds_toArray, List.set_cons_succ, List.set_cons_zero] at hK
                generalize vs 17 = vq17 at hK dq17 ⊢
                subst vq17
                generalize vs 20 = vq20 at hK dq20 ⊢
                subst vq20
                go_wp2
                exact hK _ _ rfl (Mod.refl _ _)
              refine opsOkA_cons ?_ ?_
              · intro K vs W hR hD hK
                have dq17 : vs 17 = .bool false := hD 17 (by decide)
                have dq21 : vs 21 = .pointer (some ⟨q, 0, none⟩) := hD 21 (by decide)
                clear hD
                try dsimp only at hK ⊢
                simp only [Act.put, List.setIfInBounds_toArray, List.set_cons_succ, List.set_cons_zero] at hK
                generalize vs 17 = vq17 at hK dq17 ⊢
                subst vq17
                generalize vs 21 = vq21 at hK dq21 ⊢
                subst vq21
                go_wp2
                exact hK _ _ rfl (Mod.refl _ _)
              refine opsOkA_cons ?_ ?_
              · intro K vs W hR hD hK
                have dq17 : vs 17 = .bool false := hD 17 (by decide)
                have dq22 : vs 22 = .pointer (some ⟨q, 1, none⟩) := hD 22 (by decide)
                clear hD
                try dsimp only at hK ⊢
                simp only [Act.put, List.setIfInBounds_toArray, List.set_cons_succ, List.set_cons_zero] at hK
                generalize vs 17 = vq17 at hK dq17 ⊢
                subst vq17
                generalize vs 22 = vq22 at hK dq22 ⊢
                subst vq22
                have q0 := ((HSd.out.at (hR)).2.2.2.1).cell 1 rfl
                go_wp2
                exact hK _ _ rfl (Mod.refl _ _)
              refine opsOkA_cons ?_ ?_
              · intro K vs W hR hD hK
                have dq17 : vs 17 = .bool false := hD 17 (by decide)
                have dq19 : (ArP (M)) (vs 19) W := hD 19 (by decide)
                have dq23 : vs 23 = .slice ra M.length rc := hD 23 (by decide)
                clear hD
                try dsimp only at hK ⊢
                simp only [Act.put, List.setIfInBounds_toArray, List.set_cons_succ, List.set_cons_zero] at hK
                generalize vs 17 = vq17 at hK dq17 ⊢
                subst vq17
                generalize vs 19 = vq19 at hK dq19 ⊢
                generalize vs 23 = vq23 at hK dq23 ⊢
                subst vq23
                obtain ⟨xa19, xc19, rfl, hr19⟩ := dq19
                go_wp2_with (go_at_call 19; refine (same13_any W M xa19 _ xc19 ra rc rfl (by omega) hr19 ((HSd.out.at (hR)).2.2.1)).mono ?_; rintro e' w' ⟨rfl, hm'⟩)
                exact hK _ _ rfl hm'
              refine opsOkA_cons ?_ ?_
              · intro K vs W hR hD hK
                have dq17 : vs 17 = .bool false := hD 17 (by decide)
                have dq24 : vs 24 = .bool true := hD 24 (by decide)
                clear hD
                try dsimp only at hK ⊢
                simp only [Act.put, List.setIfInBounds_toArray, List.set_cons_succ, List.set_cons_zero] at hK
                generalize vs 17 = vq17 at hK dq17 ⊢
                subst vq17
                generalize vs 24 = vq24 at hK dq24 ⊢
                subst vq24
                go_wp2
                exact hK _ _ rfl (Mod.refl _ _)
              refine opsOkA_cons ?_ ?_
              · intro K vs W hR hD hK
                have dq17 : vs 17 = .bool false := hD 17 (by decide)
                have dq25 : vs 25 = .bool false := hD 25 (by decide)
                clear hD
                try dsimp only at hK ⊢
                simp only [Act.put, List.setIfInBounds_toArray, List.set_cons_succ, List.set_cons_zero] at hK
                generalize vs 17 = vq17 at hK dq17 ⊢
                subst vq17
                generalize vs 25 = vq25 at hK dq25 ⊢
                subst vq25
                go_wp2
                exact hK _ _ rfl (Mod.refl _ _)
              refine opsOkA_cons ?_ ?_
              · intro K vs W hR hD hK
                have dq26 : vs 26 = .bool false := hD 26 (by decide)
                clear hD
                try dsimp only at hK ⊢
                simp only [Act.put, List.setIfInBounds_toArray, List.set_cons_succ, List.set_cons_zero] at hK
                generalize vs 26 = vq26 at hK dq26 ⊢
                subst vq26
                go_wp2
                exact hK _ _ rfl (Mod.refl _ _)
              refine opsOkA_cons ?_ ?_
              · intro K vs W hR hD hK
                have dq27 : vs 27 = .bool false := hD 27 (by decide)
                clear hD
                try dsimp only at hK ⊢
                simp only [Act.put, List.setIfInBounds_toArray, List.set_cons_succ, List.set_cons_zero] at hK
                generalize vs 27 = vq27 at hK dq27 ⊢
                subst vq27
                go_wp2
                exact hK _ _ rfl (Mod.refl _ _)
              refine opsOkA_cons ?_ ?_
              · intro K vs W hR hD hK
                have dq27 : vs 27 = .bool false := hD 27 (by decide)
                clear hD
                try dsimp only at hK ⊢
                simp only [Act.put, List.setIfInBounds_toArray, List.set_cons_succ, List.set_cons_zero] at hK
                generalize vs 27 = vq27 at hK dq27 ⊢
                subst vq27
                go_wp2
                exact hK _ _ rfl (Mod.refl _ _)
              refine opsOkA_cons ?_ ?_
              · intro K vs W hR hD hK
                have dq27 : vs 27 = .bool false := hD 27 (by decide)
                have dq29 : vs 29 = .pointer (some ⟨g, 5, none⟩) := hD 29 (by decide)
                clear hD
                try dsimp only at hK ⊢
                simp only [Act.put, List.setIfInBounds_toArray, List.set_cons_succ, List.set_cons_zero] at hK
                generalize vs 27 = vq27 at hK dq27 ⊢
                subst vq27
                generalize vs 29 = vq29 at hK dq29 ⊢
                subst vq29
                have q0 := ((HSd.out.at (hR)).2.1).cell 5 rfl
                go_wp2
                exact hK _ _ rfl (Mod.refl _ _)
              refine opsOkA_cons ?_ ?_
              · intro K vs W hR hD hK
                have dq27 : vs 27 = .bool false := hD 27 (by decide)
                have dq28 : vs 28 = .pointer (some ⟨p, 0, none⟩) := hD 28 (by decide)
                have dq30 : vs 30 = .int .i64 v := hD 30 (by decide)
                clear hD
                try dsimp only at hK ⊢
                simp only [Act.put, List.setIfInBounds_toArray, List.set_cons_succ, List.set_cons_zero] at hK
                generalize vs 27 = vq27 at hK dq27 ⊢
                subst vq27
                generalize vs 28 = vq28 at hK dq28 ⊢
                subst vq28
                generalize vs 30 = vq30 at hK dq30 ⊢
                subst vq30
                go_wp2_with (go_at_call 21; refine (nt_out ((HSd.out.at (hR)).2.2.2.2.2.1) v).mono ?_; rintro e' w' ⟨xa', xc', rfl, ho', hm'⟩)
                exact hK _ _ ⟨_, _, rfl, Rd.ofOwn ho'⟩ hm'
              refine opsOkA_cons ?_ ?_
              · intro K vs W hR hD hK
                have dq27 : vs 27 = .bool false := hD 27 (by decide)
                clear hD
                try dsimp only at hK ⊢
                simp only [Act.put, List.setIfInBounds_toArray, List.set_cons_succ, List.set_cons_zero] at hK
                generalize vs 27 = vq27 at hK dq27 ⊢
                subst vq27
                go_wp2
                exact hK _ _ rfl (Mod.refl _ _)
              refine opsOkA_cons ?_ ?_
              · intro K vs W hR hD hK
                have dq27 : vs 27 = .bool false := hD 27 (by decide)
                clear hD
                try dsimp only at hK ⊢
                simp only [Act.put, List.setIfInBounds_toArray, List.set_cons_succ, List.set_cons_zero] at hK
                generalize vs 27 = vq27 at hK dq27 ⊢
                subst vq27
                go_wp2
                exact hK _ _ rfl (Mod.refl _ _)
              refine opsOkA_cons ?_ ?_
              · intro K vs W hR hD hK
                have dq27 : vs 27 = .bool false := hD 27 (by decide)
                have dq33 : vs 33 = .pointer (some ⟨g, 5, none⟩) := hD 33 (by decide)
                clear hD
                try dsimp only at hK ⊢
                simp only [Act.put, List.setIfInBounds_toArray, List.set_cons_succ, List.set_cons_zero] at hK
                generalize vs 27 = vq27 at hK dq27 ⊢
                subst vq27
                generalize vs 33 = vq33 at hK dq33 ⊢
                subst vq33
                have q0 := ((HSd.out.at (hR)).2.1).cell 5 rfl
                go_wp2
                exact hK _ _ rfl (Mod.refl _ _)
              refine opsOkA_cons ?_ ?_
              · intro K vs W hR hD hK
                have dq27 : vs 27 = .bool false := hD 27 (by decide)
                have dq32 : vs 32 = .pointer (some ⟨q, 0, none⟩) := hD 32 (by decide)
                have dq34 : vs 34 = .int .i64 v := hD 34 (by decide)
                clear hD
                try dsimp only at hK ⊢
                simp only [Act.put, List.setIfInBounds_toArray, List.set_cons_succ, List.set_cons_zero] at hK
                generalize vs 27 = vq27 at hK dq27 ⊢
                subst vq27
                generalize vs 32 = vq32 at hK dq32 ⊢
                subst vq32
                generalize vs 34 = vq34 at hK dq34 ⊢
                subst vq34
                go_wp2_with (go_at_call 22; refine (rn_out ((HSd.out.at (hR)).2.2.2.2.1) HKM.out (by omega) v).mono ?_; rintro e' w' ⟨xa', xc', rfl, ho', hm'⟩)
                exact hK _ _ ⟨_, _, rfl, Rd.ofOwn ho'⟩ hm'
              refine opsOkA_cons ?_ ?_
              · intro K vs W hR hD hK
                have dq27 : vs 27 = .bool false := hD 27 (by decide)
                have dq31 : (ArP (outL M v)) (vs 31) W := hD 31 (by decide)
                have dq35 : (ArP (outL M v)) (vs 35) W := hD 35 (by decide)
                clear hD
                try dsimp only at hK ⊢
                simp only [Act.put, List.setIfInBounds_toArray, List.set_cons_succ, List.set_cons_zero] at hK
                generalize vs 27 = vq27 at hK dq27 ⊢
                subst vq27
                generalize vs 31 = vq31 at hK dq31 ⊢
                generalize vs 35 = vq35 at hK dq35 ⊢
                obtain ⟨xa31, xc31, rfl, hr31⟩ := dq31
                obtain ⟨xa35, xc35, rfl, hr35⟩ := dq35
                go_wp2_with (go_at_call 19; refine (same13_any W (outL M v) xa31 _ xc31 xa35 xc35 rfl (by have := List.length_filter_le (fun b : Ar => decide (b.f = v)) M; unfold outL; omega) hr31 hr35).mono ?_; rintro e' w' ⟨rfl, hm'⟩)
                exact hK _ _ rfl hm'
              refine opsOkA_cons ?_ ?_
              · intro K vs W hR hD hK
                have dq27 : vs 27 = .bool false := hD 27 (by decide)
                have dq36 : vs 36 = .bool true := hD 36 (by decide)
                clear hD
                try dsimp only at hK ⊢
                simp only [Act.put, List.setIfInBounds_toArray, List.set_cons_succ, List.set_cons_zero] at hK
                generalize vs 27 = vq27 at hK dq27 ⊢
                subst vq27
                generalize vs 36 = vq36 at hK dq36 ⊢
                subst vq36
                go_wp2
                exact hK _ _ rfl (Mod.refl _ _)
              refine opsOkA_cons ?_ ?_
              · intro K vs W hR hD hK
                have dq27 : vs 27 = .bool false := hD 27 (by decide)
                have dq37 : vs 37 = .bool false := hD 37 (by decide)
                clear hD
                try dsimp only at hK ⊢
                simp only [Act.put, List.setIfInBounds_toArray, List.set_cons_succ, List.set_cons_zero] at hK
                generalize vs 27 = vq27 at hK dq27 ⊢
                subst vq27
                generalize vs 37 = vq37 at hK dq37 ⊢
                subst vq37
                go_wp2
                exact hK _ _ rfl (Mod.refl _ _)
              refine opsOkA_cons ?_ ?_
              · intro K vs W hR hD hK
                have dq38 : vs 38 = .bool false := hD 38 (by decide)
                clear hD
                try dsimp only at hK ⊢
                simp only [Act.put, List.setIfInBounds_toArray, List.set_cons_succ, List.set_cons_zero] at hK
                generalize vs 38 = vq38 at hK dq38 ⊢
                subst vq38
                go_wp2
                exact hK _ _ rfl (Mod.refl _ _)
              refine opsOkA_cons ?_ ?_
              · intro K vs W hR hD hK
                have dq39 : vs 39 = .bool false := hD 39 (by decide)
                clear hD
                try dsimp only at hK ⊢
                simp only [Act.put, List.setIfInBounds_toArray, List.set_cons_succ, List.set_cons_zero] at hK
                generalize vs 39 = vq39 at hK dq39 ⊢
                subst vq39
                go_wp2
                exact hK _ _ rfl (Mod.refl _ _)
              refine opsOkA_cons ?_ ?_
              · intro K vs W hR hD hK
                have dq39 : vs 39 = .bool false := hD 39 (by decide)
                clear hD
                try dsimp only at hK ⊢
                simp only [Act.put, List.setIfInBounds_toArray, List.set_cons_succ, List.set_cons_zero] at hK
                generalize vs 39 = vq39 at hK dq39 ⊢
                subst vq39
                go_wp2
                exact hK _ _ rfl (Mod.refl _ _)
              refine opsOkA_cons ?_ ?_
              · intro K vs W hR hD hK
                have dq39 : vs 39 = .bool false := hD 39 (by decide)
                have dq41 : vs 41 = .pointer (some ⟨g, 5, none⟩) := hD 41 (by decide)
                clear hD
                try dsimp only at hK ⊢
                simp only [Act.put, List.setIfInBounds_toArray, List.set_cons_succ, List.set_cons_zero] at hK
                generalize vs 39 = vq39 at hK dq39 ⊢
                subst vq39
                generalize vs 41 = vq41 at hK dq41 ⊢
                subst vq41
                have q0 := ((HSd.out.at (hR)).2.1).cell 5 rfl
                go_wp2
                exact hK _ _ rfl (Mod.refl _ _)
              refine opsOkA_cons ?_ ?_
              · intro K vs W hR hD hK
                have dq39 : vs 39 = .bool false := hD 39 (by decide)
                have dq40 : vs 40 = .pointer (some ⟨p, 0, none⟩) := hD 40 (by decide)
                have dq42 : vs 42 = .int .i64 v := hD 42 (by decide)
                clear hD
                try dsimp only at hK ⊢
                simp only [Act.put, List.setIfInBounds_toArray, List.set_cons_succ, List.set_cons_zero] at hK
                generalize vs 39 = vq39 at hK dq39 ⊢
                subst vq39
                generalize vs 40 = vq40 at hK dq40 ⊢
                subst vq40
                generalize vs 42 = vq42 at hK dq42 ⊢
                subst vq42
                go_wp2_with (go_at_call 23; refine (nt_in ((HSd.out.at (hR)).2.2.2.2.2.1) v).mono ?_; rintro e' w' ⟨xa', xc', rfl, ho', hm'⟩)
                exact hK _ _ ⟨_, _, rfl, Rd.ofOwn ho'⟩ hm'
              refine opsOkA_cons ?_ ?_
              · intro K vs W hR hD hK
                have dq39 : vs 39 = .bool false := hD 39 (by decide)
                clear hD
                try dsimp only at hK ⊢
                simp only [Act.put, List.setIfInBounds_toArray, List.set_cons_succ, List.set_cons_zero] at hK
                generalize vs 39 = vq39 at hK dq39 ⊢
                subst vq39
                go_wp2
                exact hK _ _ rfl (Mod.refl _ _)
              refine opsOkA_cons ?_ ?_
              · intro K vs W hR hD hK
                have dq39 : vs 39 = .bool false := hD 39 (by decide)
                clear hD
                try dsimp only at hK ⊢
                simp only [Act.put, List.setIfInBounds_toArray, List.set_cons_succ, List.set_cons_zero] at hK
                generalize vs 39 = vq39 at hK dq39 ⊢
                subst vq39
                go_wp2
                exact hK _ _ rfl (Mod.refl _ _)
              refine opsOkA_cons ?_ ?_
              · intro K vs W hR hD hK
                have dq39 : vs 39 = .bool false := hD 39 (by decide)
                have dq45 : vs 45 = .pointer (some ⟨g, 5, none⟩) := hD 45 (by decide)
                clear hD
                try dsimp only at hK ⊢
                simp only [Act.put, List.setIfInBounds_toArray, List.set_cons_succ, List.set_cons_zero] at hK
                generalize vs 39 = vq39 at hK dq39 ⊢
                subst vq39
                generalize vs 45 = vq45 at hK dq45 ⊢
                subst vq45
                have q0 := ((HSd.out.at (hR)).2.1).cell 5 rfl
                go_wp2
                exact hK _ _ rfl (Mod.refl _ _)
              refine opsOkA_cons ?_ ?_
              · intro K vs W hR hD hK
                have dq39 : vs 39 = .bool false := hD 39 (by decide)
                have dq44 : vs 44 = .pointer (some ⟨q, 0, none⟩) := hD 44 (by decide)
                have dq46 : vs 46 = .int .i64 v := hD 46 (by decide)
                clear hD
                try dsimp only at hK ⊢
                simp only [Act.put, List.setIfInBounds_toArray, List.set_cons_succ, List.set_cons_zero] at hK
                generalize vs 39 = vq39 at hK dq39 ⊢
                subst vq39
                generalize vs 44 = vq44 at hK dq44 ⊢
                subst vq44
                generalize vs 46 = vq46 at hK dq46 ⊢
                subst vq46
                go_wp2_with (go_at_call 24; refine (rn_in ((HSd.out.at (hR)).2.2.2.2.1) (by omega) v).mono ?_; rintro e' w' ⟨xa', xc', rfl, ho', hm'⟩)
                exact hK _ _ ⟨_, _, rfl, Rd.ofOwn ho'⟩ hm'
              refine opsOkA_cons ?_ ?_
              · intro K vs W hR hD hK
                have dq39 : vs 39 = .bool false := hD 39 (by decide)
                have dq43 : (ArP (inL M v)) (vs 43) W := hD 43 (by decide)
                have dq47 : (ArP (inL M v)) (vs 47) W := hD 47 (by decide)
                clear hD
                try dsimp only at hK ⊢
                simp only [Act.put, List.setIfInBounds_toArray, List.set_cons_succ, List.set_cons_zero] at hK
                generalize vs 39 = vq39 at hK dq39 ⊢
                subst vq39
                generalize vs 43 = vq43 at hK dq43 ⊢
                generalize vs 47 = vq47 at hK dq47 ⊢
                obtain ⟨xa43, xc43, rfl, hr43⟩ := dq43
                obtain ⟨xa47, xc47, rfl, hr47⟩ := dq47
                go_wp2_with (go_at_call 19; refine (same13_any W (inL M v) xa43 _ xc43 xa47 xc47 rfl (by have := List.length_filter_le (fun b : Ar => decide (b.t = v)) M; unfold inL; omega) hr43 hr47).mono ?_; rintro e' w' ⟨rfl, hm'⟩)
                exact hK _ _ rfl hm'
              refine opsOkA_cons ?_ ?_
              · intro K vs W hR hD hK
                have dq39 : vs 39 = .bool false := hD 39 (by decide)
                have dq48 : vs 48 = .bool true := hD 48 (by decide)
                clear hD
                try dsimp only at hK ⊢
                simp only [Act.put, List.setIfInBounds_toArray, List.set_cons_succ, List.set_cons_zero] at hK
                generalize vs 39 = vq39 at hK dq39 ⊢
                subst vq39
                generalize vs 48 = vq48 at hK dq48 ⊢
                subst vq48
                go_wp2
                exact hK _ _ rfl (Mod.refl _ _)
              refine opsOkA_cons ?_ ?_
              · intro K vs W hR hD hK
                have dq39 : vs 39 = .bool false := hD 39 (by decide)
                have dq49 : vs 49 = .bool false := hD 49 (by decide)
                clear hD
                try dsimp only at hK ⊢
                simp only [Act.put, List.setIfInBounds_toArray, List.set_cons_succ, List.set_cons_zero] at hK
                generalize vs 39 = vq39 at hK dq39 ⊢
                subst vq39
                generalize vs 49 = vq49 at hK dq49 ⊢
                subst vq49
                go_wp2
                exact hK _ _ rfl (Mod.refl _ _)
              refine opsOkA_cons ?_ ?_
              · intro K vs W hR hD hK
                have dq50 : vs 50 = .bool false := hD 50 (by decide)
                clear hD
                try dsimp only at hK ⊢
                simp only [Act.put, List.setIfInBounds_toArray, List.set_cons_succ, List.set_cons_zero] at hK
                generalize vs 50 = vq50 at hK dq50 ⊢
                subst vq50
                go_wp2
                exact hK _ _ rfl (Mod.refl _ _)
              refine opsOkA_cons ?_ ?_
              · intro K vs W hR hD hK
                have dq51 : vs 51 = .bool false := hD 51 (by decide)
                clear hD
                try dsimp only at hK ⊢
                simp only [Act.put, List.setIfInBounds_toArray, List.set_cons_succ, List.set_cons_zero] at hK
                generalize vs 51 = vq51 at hK dq51 ⊢
                subst vq51
                go_wp2
                exact hK _ _ rfl (Mod.refl _ _)
              refine opsOkA_cons ?_ ?_
              · intro K vs W hR hD hK
                have dq51 : vs 51 = .bool false := hD 51 (by decide)
                have dq52 : vs 52 = .pointer (some ⟨p, 0, none⟩) := hD 52 (by decide)
                clear hD
                try dsimp only at hK ⊢
                simp only [Act.put, List.setIfInBounds_toArray, List.set_cons_succ, List.set_cons_zero] at hK
                generalize vs 51 = vq51 at hK dq51 ⊢
                subst vq51
                generalize vs 52 = vq52 at hK dq52 ⊢
                subst vq52
                go_wp2_with (go_at_call 25; refine (nt_len ((HSd.out.at (hR)).2.2.2.2.2.1)).mono ?_; rintro e' w' ⟨rfl, rfl⟩)
                exact hK _ _ rfl (Mod.refl _ _)
              refine opsOkA_cons ?_ ?_
              · intro K vs W hR hD hK
                have dq51 : vs 51 = .bool false := hD 51 (by decide)
                clear hD
                try dsimp only at hK ⊢
                simp only [Act.put, List.setIfInBounds_toArray, List.set_cons_succ, List.set_cons_zero] at hK
                generalize vs 51 = vq51 at hK dq51 ⊢
                subst vq51
                go_wp2
                exact hK _ _ rfl (Mod.refl _ _)
              refine opsOkA_cons ?_ ?_
              · intro K vs W hR hD hK
                have dq51 : vs 51 = .bool false := hD 51 (by decide)
                have dq54 : vs 54 = .pointer (some ⟨q, 0, none⟩) := hD 54 (by decide)
                clear hD
                try dsimp only at hK ⊢
                simp only [Act.put, List.setIfInBounds_toArray, List.set_cons_succ, List.set_cons_zero] at hK
                generalize vs 51 = vq51 at hK dq51 ⊢
                subst vq51
                generalize vs 54 = vq54 at hK dq54 ⊢
                subst vq54
                go_wp2
                exact hK _ _ rfl (Mod.refl _ _)
              refine opsOkA_cons ?_ ?_
              · intro K vs W hR hD hK
                have dq51 : vs 51 = .bool false := hD 51 (by decide)
                have dq55 : vs 55 = .pointer (some ⟨q, 0, none⟩) := hD 55 (by decide)
                clear hD
                try dsimp only at hK ⊢
                simp only [Act.put, List.setIfInBounds_toArray, List.set_cons_succ, List.set_cons_zero] at hK
                generalize vs 51 = vq51 at hK dq51 ⊢
                subst vq51
                generalize vs 55 = vq55 at hK dq55 ⊢
                subst vq55
                go_wp2
                exact hK _ _ rfl (Mod.refl _ _)
              refine opsOkA_cons ?_ ?_
              · intro K vs W hR hD hK
                have dq51 : vs 51 = .bool false := hD 51 (by decide)
                have dq56 : vs 56 = .pointer (some ⟨q, 0, none⟩) := hD 56 (by decide)
                clear hD
                try dsimp only at hK ⊢
                simp only [Act.put, List.setIfInBounds_toArray, List.set_cons_succ, List.set_cons_zero] at hK
                generalize vs 51 = vq51 at hK dq51 ⊢
                subst vq51
                generalize vs 56 = vq56 at hK dq56 ⊢
                subst vq56
                have q0 := ((HSd.out.at (hR)).2.2.2.1).cell 0 rfl
                go_wp2
                exact hK _ _ rfl (Mod.refl _ _)
              refine opsOkA_cons ?_ ?_
              · intro K vs W hR hD hK
                have dq51 : vs 51 = .bool false := hD 51 (by decide)
                have dq53 : vs 53 = .int .i64 (n : Int) := hD 53 (by decide)
                have dq57 : vs 57 = .int .i64 (n : Int) := hD 57 (by decide)
                clear hD
                try dsimp only at hK ⊢
                simp only [Act.put, List.setIfInBounds_toArray, List.set_cons_succ, List.set_cons_zero] at hK
                generalize vs 51 = vq51 at hK dq51 ⊢
                subst vq51
                generalize vs 53 = vq53 at hK dq53 ⊢
                subst vq53
                generalize vs 57 = vq57 at hK dq57 ⊢
                subst vq57
                go_wp2
                exact hK _ _ rfl (Mod.refl _ _)
              refine opsOkA_cons ?_ ?_
              · intro K vs W hR hD hK
                have dq51 : vs 51 = .bool false := hD 51 (by decide)
                have dq58 : vs 58 = .bool false := hD 58 (by decide)
                clear hD
                try dsimp only at hK ⊢
                simp only [Act.put, List.setIfInBounds_toArray, List.set_cons_succ, List.set_cons_zero] at hK
                generalize vs 51 = vq51 at hK dq51 ⊢
                subst vq51
                generalize vs 58 = vq58 at hK dq58 ⊢
                subst vq58
                go_wp2
                exact hK _ _ rfl (Mod.refl _ _)
              exact opsOkA_nil
            · intro vs wq3 hR hF
              have dq59 : vs 59 = .bool false := hF 59 (by decide)
              clear hF
              try dsimp only
              generalize vs 59 = vq59 at dq59 ⊢
              subst dq59
              replace HS := Lib.hid (HSd.out.step hR)
              clear HSd hR
              have hbq := (HS.out.now).2.2.2.1
              have qq_0 := hbq.cell 0 rfl
              have qq_1 := hbq.cell 1 rfl
              have lq := hbq.lt
              clear hbq
              have hbg := (HS.out.now).2.1
              have qg_0 := hbg.cell 0 rfl
              have qg_1 := hbg.cell 1 rfl
              have qg_2 := hbg.cell 2 rfl
              have qg_3 := hbg.cell 3 rfl
              have qg_4 := hbg.cell 4 rfl
              have qg_5 := hbg.cell 5 rfl
              have lg := hbg.lt
              clear hbg
              have hbbx := (HS.out.now).1
              have qbx_0 := hbbx.cell 0 rfl
              have qbx_1 := hbbx.cell 1 rfl
              have qbx_2 := hbbx.cell 2 rfl
              have qbx_3 := hbbx.cell 3 rfl
              have lbx := hbbx.lt
              clear hbbx
              go_wp2_with fail
              go_roundw
              case rel =>
                obtain ⟨F2, G2, hh⟩ := HSC.out.later (HM9.out.of2 (HS.out.now).2.2.2.2.2.2)
                exact ⟨k + 1, M, F2, G2, by go_num, hlt, by omega, hh.nt, hh.rn, fun j hj => ⟨(hh.hf j hj).1, (hh.hf j hj).2.1, (hh.hf j hj).2.2.1⟩, hh.hg, hh.hq.1, hh.md⟩
              case measure => simp [intOf]; omega
theorem nacts_law (w : World) (nv : Int) (_ : (Lit.int .i64 nv).wf = true) (a : Option Addr) (ln c : Nat) (A : List ArcD) (ok : (encSlice enc4).ok w (.slice a ln c, A)) (a2 : Option Addr) (m c2 : Nat) (l : List ActN) (ok2 : (encSlice encActN).ok w (.slice a2 m c2, l)) :
    Calls Try.prog 3 #[.int .i64 nv, .slice a ln c, .slice a2 m c2] w fun e w' => e = .returned (.bool true) ∧ Below w.heap.size w w' := by
  obtain ⟨hr, _⟩ := ok
  rw [enc4_img] at hr
  have hr' : Rd w 4 (.slice a ln c) A.length ((A.map arD).flatMap c4) := hr
  have hn := hr'.len_eq
  subst hn
  obtain ⟨hr2, _⟩ := ok2
  have hr2' : Rd w 6 (.slice a2 m c2) l.length (l.flatMap c6N) := hr2
  have hn2 := hr2'.len_eq
  subst hn2
  exact (nacts_all w nv a _ c (A.map arD) (by simp) hr' a2 _ c2 l rfl hr2').mono fun e w' h => ⟨h.1, h.2.below (Nat.le_refl _) (fun _ e => e.elim)⟩

end Go.Proofs.Ytnklgeekjkchbaa
