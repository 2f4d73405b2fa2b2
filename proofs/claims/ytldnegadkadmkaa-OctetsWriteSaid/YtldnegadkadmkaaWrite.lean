/- The law OctetsWrite, walked. -/
import Derived.Test.YtldnegadkadmkaaFew
import Derived.Deep.DeepCutAuto
import Derived.StillTailTactics
namespace Go.Proofs.Ytldnegadkadmkaa
open Go.RowKit Mile

def mFold (size : Int) (N : List Int) (m : Bool × List Int) : Bool × List Int := N.foldl (fun m n => mNum size n m) m

/-- The two Writers hold the same. -/
def Rel (s : Option (List Int)) (m : Bool × List Int) : Prop := m.1 = s.isNone ∧ ∀ bs, s = some bs → m.2 = bs

theorem mNum_bad (size n : Int) (m : Bool × List Int) (h : m.1 = true) : (mNum size n m).1 = true := by
  unfold mNum; split
  · exact h
  · rfl
theorem mFold_bad (size : Int) : ∀ (N : List Int) (m : Bool × List Int), m.1 = true → (mFold size N m).1 = true := by
  intro N
  induction N with
  | nil => intro m h; exact h
  | cons n r ih => intro m h; exact ih _ (mNum_bad size n m h)

theorem rel_none {m : Bool × List Int} (h : m.1 = true) : Rel none m := ⟨h, fun _ e => by cases e⟩

theorem rel_nums (size : Int) (N : List Int) (s : Option (List Int)) (m : Bool × List Int) (h : Rel s m) : Rel (numsS size N s) (mFold size N (m.1 || !sizeOk size, m.2)) := by
  cases hok : sizeOk size with
  | false =>
    have e : numsS size N s = none := by cases s <;> simp [numsS, hok]
    rw [e]
    exact rel_none (mFold_bad size N _ (by simp))
  | true =>
    cases s with
    | none =>
      have e : numsS size N none = none := rfl
      rw [e]
      exact rel_none (mFold_bad size N _ (by simp [h.1]))
    | some bs =>
      have hm : (m.1 || !true, m.2) = (false, bs) := by rw [h.1, h.2 bs rfl]; rfl
      rw [hm]
      have e : numsS size N (some bs) = numsL size.toNat bs N := by simp [numsS, hok]
      rw [e]
      clear e hm h
      induction N generalizing bs with
      | nil => exact ⟨rfl, fun _ e => by cases e; rfl⟩
      | cons n r ih =>
        show Rel (numsL size.toNat bs (n :: r)) (mFold size r (mNum size n (false, bs)))
        cases hf : fits size.toNat n with
        | true =>
          have e1 : mNum size n (false, bs) = (false, bs ++ digs n size.toNat) := by simp [mNum, hok, hf]
          rw [e1, numsL, if_pos hf]
          exact ih _
        | false =>
          rw [numsL, if_neg (by simp [hf])]
          exact rel_none (mFold_bad size r _ (by simp [mNum, hf]))

theorem mNum_len (size n : Int) (m : Bool × List Int) : (mNum size n m).2.length ≤ m.2.length + 7 := by
  unfold mNum; split
  · rename_i h
    simp only [Bool.and_eq_true] at h
    have := h.1
    simp [sizeOk] at this
    simp [digs_length]; omega
  · simp
theorem mFold_len (size : Int) : ∀ (N : List Int) (m : Bool × List Int), (mFold size N m).2.length ≤ m.2.length + 7 * N.length := by
  intro N
  induction N with
  | nil => intro m; exact Nat.le_add_right _ _
  | cons n r ih =>
    intro m
    have h1 := ih (mNum size n m)
    have h2 := mNum_len size n m
    have e : mFold size (n :: r) m = mFold size r (mNum size n m) := rfl
    rw [e, List.length_cons]; omega
theorem mFold_snoc (size : Int) (N : List Int) (k : Nat) (h : k < N.length) (m : Bool × List Int) : mFold size (N.take (k + 1)) m = mNum size N[k] (mFold size (N.take k) m) := by
  unfold mFold
  rw [List.take_succ_eq_append_getElem h, List.foldl_append]
  rfl

theorem numsS_len (size : Int) (N : List Int) (s : Option (List Int)) : ((numsS size N s).getD []).length ≤ (s.getD []).length + 7 * N.length := by
  cases s with
  | none => simp [numsS]
  | some bs =>
    cases hok : sizeOk size with
    | false => simp [numsS, hok]
    | true =>
      have hs : 1 ≤ size ∧ size ≤ 7 := by simpa [sizeOk] using hok
      simp only [numsS, Option.bind_some, hok, if_true, Option.getD_some]
      cases e : numsL size.toNat bs N with
      | none => simp
      | some cs =>
        have := numsL_length _ _ _ _ e
        have h7 : size.toNat * N.length ≤ 7 * N.length := Nat.mul_le_mul_right _ (by omega)
        simp only [Option.getD_some]; omega

/-- Both Writers, apart from each other, in blocks of the call's own. -/
structure WSt (w W : World) (p q : Nat) (s : Option (List Int)) (m : Bool × List Int) (F G : Nat → Prop) : Prop where
  r : Wr W p s F
  m : MW W q m.1 m.2 G
  dis : ∀ k, F k → ¬ G k
  fB : ∀ k, F k → w.heap.size ≤ k
  gB : ∀ k, G k → w.heap.size ≤ k
  mod : Mod (fun _ => False) w W

theorem WSt.drew {w W : World} {p q : Nat} {s : Option (List Int)} {m : Bool × List Int} {F G : Nat → Prop} (h : WSt w W p q s m F G) : WSt w W.drew p q s m F G := ⟨h.r.drew, h.m.drew, h.dis, h.fB, h.gB, h.mod.thenDrew⟩

/-- Behind a call on the one. -/
theorem WSt.left {w W W' : World} {p q : Nat} {s s' : Option (List Int)} {m : Bool × List Int} {F F' G : Nat → Prop} (h : WSt w W p q s m F G) (hr : Wr W' p s' F') (ha : After W W' F F') : WSt w W' p q s' m F' G := by
  have hsz := h.mod.size
  refine ⟨hr, h.m.keep ha.1 (fun k hg hf => h.dis k hf hg), fun k hk hg => ?_, fun k hk => ?_, h.gB, h.mod.trans ha.1 (fun _ _ e => e) (fun i hi e => by have := h.fB i e; omega)⟩
  · rcases ha.2 k hk with hf | hf
    · exact h.dis k hf hg
    · have := h.m.lt k hg; omega
  · rcases ha.2 k hk with hf | hf
    · exact h.fB k hf
    · omega
/-- Behind a call on the other. -/
theorem WSt.right {w W W' : World} {p q : Nat} {s : Option (List Int)} {m m' : Bool × List Int} {F G G' : Nat → Prop} (h : WSt w W p q s m F G) (hr : MW W' q m'.1 m'.2 G') (ha : After W W' G G') : WSt w W' p q s m' F G' := by
  have hsz := h.mod.size
  refine ⟨h.r.keep ha.1 (fun k hf hg => h.dis k hf hg), hr, fun k hk hg => ?_, h.fB, fun k hk => ?_, h.mod.trans ha.1 (fun _ _ e => e) (fun i hi e => by have := h.gB i e; omega)⟩
  · rcases ha.2 k hg with hf | hf
    · exact h.dis k hk hf
    · have := h.r.lt k hk; omega
  · rcases ha.2 k hk with hf | hf
    · exact h.gB k hf
    · omega

set_option maxHeartbeats 8000000 in
set_option maxRecDepth 100000 in
theorem write_walk (w : World) (a : Option Addr) (n c : Nat) (l : List PartD) (hn : n = l.length) (hr : Rd w 4 (.slice a n c) n (l.flatMap encPart.img)) (hok : ∀ x ∈ l, PartOk w x) :
    Calls Try.prog 3 #[.slice a n c] w fun e w' => e = .returned (.bool true) ∧ Mod (fun _ => False) w w' := by
  obtain ⟨i34, hi34, hs34⟩ := info_part
  obtain ⟨i3, hi3, hy3, hz3, hv3⟩ := info_parts Oct.info3
  obtain ⟨i0, hi0, hz0, hz1, hz2⟩ := info_parts Oct.info5
  have HN := Lib.hid hn
  clear hn
  go_enter Try.func3, Try.ntmps3
  go_wp2_with fail
  refine (few_any w a n c l HN.out hr hok).mono ?_
  rintro e w0 ⟨b, rfl, rfl, hfew⟩
  cases b with
  | false =>
    clear hfew
    go_wp2_with fail
    refine (awake_any _).mono ?_
    rintro e w9 ⟨rfl, hM9⟩
    go_wp2
    go_ret
    exact ⟨rfl, hM9⟩
  | true =>
  obtain ⟨hn30, hb⟩ := hfew rfl
  have q1 : (n : Int) ≤ 30 := by omega
  clear hfew
  go_wp2_with fail
  go_loopw [3, 5] (fun v i wr => ∃ (j : Nat) (s : Option (List Int)) (m : Bool × List Int) (F G : Nat → Prop), j ≤ n ∧ i = .int .i64 j ∧ v = .pointer (some ⟨w.heap.size, 0, none⟩) ∧
      WSt w wr w.heap.size (w.heap.size + 1) s m F G ∧ Rel s m ∧ (s.getD []).length ≤ 200 * j ∧ m.2.length ≤ 200 * j)
    (fun _ i _ => n - (intOf i).toNat)
  case atStart =>
    refine ⟨0, some [], (false, []), fun k => k = w.heap.size, fun k => k = w.heap.size + 1, Nat.zero_le _, rfl, rfl, ?_, ⟨rfl, fun _ e => by cases e; rfl⟩, by simp, by simp⟩
    have hq : MW ((w.alloc (.cells #[.slice none 0 0, .bool false] 28)).alloc (.cells #[.slice none 0 0, .bool false] 31)) (w.heap.size + 1) false [] (fun k => k = w.heap.size + 1) := by
      have e : (w.alloc (.cells #[.slice none 0 0, .bool false] 28)).heap.size = w.heap.size + 1 := by simp
      refine ⟨.slice none 0 0, ?_, World.ownsRow_nil _ _ _ _, rfl, by simp [Value.ownBlock], fun k hk => by subst hk; simp⟩
      rw [← e]
      exact Blk.new _ _ [.slice none 0 0, .bool false]
    exact ⟨(Wr.new (w := w) _ rfl).alloc _, hq, fun k h1 h2 => by omega, fun k hk => by omega, fun k hk => by omega, ((Mod.refl _ w).thenAlloc _).thenAlloc _⟩
  case round =>
    obtain ⟨j, s, m, F, G, hj, rfl, rfl, hS, hRel, hsl, hml⟩ := hrel
    obtain ⟨bad, mb⟩ := m
    by_cases hlt : j < n
    · have hjl : j < l.length := by rw [← HN.out]; exact hlt
      obtain ⟨pb, po, hpl, _⟩ := hr.place hlt
      have hix := fun wx => run_indexS (P := Try.prog) wx 22 34 i34 4 Try.underlying22 hi34 hs34 a n c j hlt (hr.some_ (by omega))
      rw [hpl] at hix
      obtain ⟨x, hx⟩ : ∃ x, l[j] = x := ⟨_, rfl⟩
      have hxm : x ∈ l := by rw [← hx]; exact List.getElem_mem hjl
      obtain ⟨⟨an, cn, en, hrN⟩, ⟨ab, cb, eb, hrB⟩⟩ := hok x hxm
      obtain ⟨hN20, hB60⟩ := hb x hxm
      have hcells : ∀ W : World, Mod (fun _ => False) w W → W.cell? ⟨pb, po, none⟩ = some (.int .i64 x.1) ∧ W.cell? ⟨pb, po + 1, none⟩ = some (.int .i64 x.2.1) ∧
          W.cell? ⟨pb, po + 2, none⟩ = some (.slice an x.2.2.1.2.length cn) ∧ W.cell? ⟨pb, po + 3, none⟩ = some (.slice ab x.2.2.2.1.2.length cb) := by
        intro W hm
        have hrW := hr.keepA hm (fun _ _ e => e.elim)
        refine ⟨?_, ?_, ?_, ?_⟩
        · have := hrW.elemN hpl 0 (u := .int .i64 x.1) (by rw [part_at l j hjl 0 (by omega), hx]; rfl); simpa using this
        · exact hrW.elemN hpl 1 (by rw [part_at l j hjl 1 (by omega), hx]; rfl)
        · rw [← en]; exact hrW.elemN hpl 2 (by rw [part_at l j hjl 2 (by omega), hx]; rfl)
        · rw [← eb]; exact hrW.elemN hpl 3 (by rw [part_at l j hjl 3 (by omega), hx]; rfl)
      obtain ⟨N, hN⟩ : ∃ N, x.2.2.1.2 = N := ⟨_, rfl⟩
      obtain ⟨B, hB⟩ : ∃ B, x.2.2.2.1.2 = B := ⟨_, rfl⟩
      obtain ⟨sz, hsz⟩ : ∃ sz, x.2.1 = sz := ⟨_, rfl⟩
      obtain ⟨kd, hkd⟩ : ∃ kd, x.1 = kd := ⟨_, rfl⟩
      rw [hN] at hrN hN20
      rw [hB] at hrB hB60
      rw [hN, hB, hsz, hkd] at hcells
      clear hx hN hB hsz hkd en eb hxm hpl
      have hrNW : ∀ W : World, Mod (fun _ => False) w W → Rd W 1 (.slice an N.length cn) N.length (N.map (Value.int .i64)) := fun W hm => hrN.keepA hm (fun _ _ e => e.elim)
      have hrBW : ∀ W : World, Mod (fun _ => False) w W → Rd W 1 (.slice ab B.length cb) B.length (B.map (Value.int .u8)) := fun W hm => hrB.keepA hm (fun _ _ e => e.elim)
      have hoN : ∀ k, (Value.slice an N.length cn).ownBlock = some k → w.heap.size ≤ k → N = [] := fun k h1 h2 => by have := hrN.lt h1 h2; simpa using this
      obtain ⟨g0, g1, g2, g3⟩ := hcells _ hS.mod
      have hC := Lib.hid hcells
      have hCN := Lib.hid hrNW
      have hCB := Lib.hid hrBW
      clear hcells hrNW hrBW
      by_cases hk0 : kd = 0
      · have hk0b : (kd == 0) = true := by simpa using hk0
        clear hk0
        have hSd := hS.drew
        have hNd : (some ([] : List Int)).isSome := rfl
        have hbdN : (s.getD []).length + 7 * N.length ≤ 1000000000 := by omega
        have hgd := hC.out _ hSd.mod
        obtain ⟨g0d, g1d, g2d, g3d⟩ := hgd
        go_upto_region 8 with fail
        go_cut [3] from 17 to 103 (fun t wx => t = .pointer (some ⟨w.heap.size, 0, none⟩) ∧ ∃ F', WSt w wx w.heap.size (w.heap.size + 1) (numsS sz N s) (bad, mb) F' G)
        case first =>
          go_region_with (go_at_call 9; refine (nums_any w.heap.size _ s F hSd.r sz _ N (hCN.out _ hSd.mod) (fun k h1 h2 => hoN k h1 (hSd.fB k h2)) hbdN).mono ?_; rintro e wA ⟨rfl, F', hWA, hAA⟩)
          all_goals
            go_wp2_with fail
            go_meet
            exact ⟨rfl, F', hSd.left hWA hAA⟩
        case rest =>
          obtain ⟨rfl, F1, hS1⟩ := hcut
          clear g0 g1 g2 g3 g0d g1d g2d g3d hSd hS
          obtain ⟨g0, g1, g2, g3⟩ := hC.out _ hS1.mod
          go_upto_region 9 with fail
          go_cut [4] from 17 to 103 (fun t wx => t = .pointer (some ⟨w.heap.size + 1, 0, none⟩) ∧ WSt w wx w.heap.size (w.heap.size + 1) (numsS sz N s) (bad || !sizeOk sz, mb) F1 G)
          case first =>
            have hmm := hS1.m
            have hset := fun b => WSt.right (m' := (b, mb)) hS1 (hmm.setBad b) ⟨Mod.setCell _ _ _ hmm.self, fun _ e => .inl e⟩
            obtain ⟨v, hb1, _⟩ := hmm
            have f1 := hb1.cell 1 rfl
            have d1 := hb1.free 1
            cases bad with
            | true =>
              go_wp2_with fail
              go_meet
              exact ⟨rfl, by simpa using hset true⟩
            | false =>
              go_wp2_with (go_at_call 10; refine (msize_any _ _).mono ?_; rintro e w' ⟨rfl, rfl⟩)
              go_meet
              exact ⟨rfl, by simpa using hset (!sizeOk sz)⟩
          case rest =>
            obtain ⟨rfl, hS2⟩ := hcut
            clear hS1 g0 g1 g2 g3
            have hR2 := rel_nums sz N s (bad, mb) hRel
            have hL2 := mFold_len sz N (bad || !sizeOk sz, mb)
            have hsl2 : ((numsS sz N s).getD []).length ≤ (s.getD []).length + 7 * N.length := numsS_len sz N s
            simp only at hR2 hL2
            obtain ⟨m1, hm1⟩ : ∃ m1, (bad || !sizeOk sz, mb) = m1 := ⟨_, rfl⟩
            rw [hm1] at hS2 hR2 hL2
            have hml1 : m1.2.length ≤ 200 * j := by rw [← hm1]; exact hml
            obtain ⟨s1, hs1⟩ : ∃ s1, numsS sz N s = s1 := ⟨_, rfl⟩
            rw [hs1] at hS2 hR2 hsl2
            clear hm1 hs1
            go_wp2_with fail
            go_loopw [6] (fun i wx => ∃ (k : Nat) (G' : Nat → Prop), k ≤ N.length ∧ i = .int .i64 k ∧ WSt w wx w.heap.size (w.heap.size + 1) s1 (mFold sz (N.take k) m1) F1 G')
              (fun i _ => N.length - (intOf i).toNat)
            case atStart => exact ⟨0, G, Nat.zero_le _, rfl, hS2⟩
            case round =>
              obtain ⟨k, G2, hk, rfl, hS3⟩ := hrel
              obtain ⟨g0, g1, g2, g3⟩ := hC.out _ hS3.mod
              have hl3 := mFold_len sz (N.take k) m1
              by_cases hkl : k < N.length
              · have hS3d := hS3.drew
                obtain ⟨g0d, g1d, g2d, g3d⟩ := hC.out _ hS3d.mod
                have hRN := hCN.out _ hS3.mod
                have hRNd := hCN.out _ hS3d.mod
                have hixN := fun wx => run_indexS (P := Try.prog) wx 32 3 i3 1 Try.underlying32 hi3 hz3 an N.length cn k hkl (hRN.some_ (by omega))
                have gN : wr.drew.cell? (elemA an k 1) = some (.int .i64 N[k]) := hRNd.elem (by simp [hkl])
                have hbm : (mFold sz (N.take k) m1).2.length ≤ 1000000 := by rw [List.length_take] at hl3; omega
                go_wp2_with fail
                go_region_with (go_at_call 11; refine (mnumW_any _ _ _ _ G2 hS3d.m sz N[k] hbm).mono ?_; rintro e wA ⟨rfl, G3, hWA, hAA⟩)
                all_goals
                  go_wp2
                  go_roundw
                  case rel => exact ⟨k + 1, G3, hkl, by go_num, by rw [mFold_snoc sz N k hkl]; exact hS3d.right hWA hAA⟩
                  case measure => simp [intOf]; omega
              · obtain rfl : k = N.length := by omega
                rw [List.take_length] at hS3
                have hml2 : (mFold sz N m1).2.length ≤ 200 * (j + 1) := by omega
                have hsl3 : (s1.getD []).length ≤ 200 * (j + 1) := by omega
                clear hl3
                go_wp2
                go_roundw
                case rel => exact ⟨j + 1, s1, mFold sz N m1, F1, G2, hlt, by go_num, rfl, hS3, hR2, hsl3, hml2⟩
                case measure => simp [intOf]; omega
      · have hk0b : (kd == 0) = false := by simpa using hk0
        clear hk0
        have hbdB : (s.getD []).length + B.length ≤ 1000000000 := by omega
        have hRB := hCB.out _ hS.mod
        go_wp2_with fail
        refine (raw_any w.heap.size _ s F hS.r _ B hRB hbdB).mono ?_
        rintro e wA ⟨rfl, F1, hWA, hAA⟩
        have hS1 := hS.left hWA hAA
        clear hS hWA hAA g0 g1 g2 g3 hRB
        obtain ⟨g0, g1, g2, g3⟩ := hC.out _ hS1.mod
        have hS1d := hS1.drew
        obtain ⟨g0d, g1d, g2d, g3d⟩ := hC.out _ hS1d.mod
        have hRB := hCB.out _ hS1d.mod
        obtain ⟨v, b1, b2, b3, b4, b5⟩ := hS1.m
        have hqq := b5 _ b3
        have f0 := b1.cell 0 rfl
        have d0 := b1.free 0
        have hml0 : mb.length ≤ 200 * j := hml
        have hm1 : mb.length + B.length ≤ maxLen := by unfold maxLen; omega
        have hm2 : (mb.length + B.length) * 1 ≤ 140737488355328 := by omega
        have h1c : ∀ u ∈ B.map (Value.int .u8), u.oneCell' = true := by intro u hu; obtain ⟨x, _, rfl⟩ := List.mem_map.1 hu; rfl
        have hsl1 : ((s.map (· ++ B)).getD []).length ≤ 200 * (j + 1) := by
          cases s with
          | none => simp
          | some bs0 => simp at hsl ⊢; omega
        have hml1 : (mb ++ B).length ≤ 200 * (j + 1) := by rw [List.length_append]; omega
        have hRel1 : Rel (s.map (· ++ B)) (bad, mb ++ B) := by
          refine ⟨by rw [hRel.1]; cases s <;> rfl, fun bs e => ?_⟩
          cases s with
          | none => cases e
          | some bs0 => simp at e; subst e; rw [show mb = bs0 from hRel.2 bs0 rfl]
        go_wp2_with fail
        go_region_law (
          refine step_append_any rfl (.tmp 93) (.tmp 98) 26 rfl 5 i0 (.int .u8 0) 1 1 Try.underlying26 hi0 hz0 hz1 hz2 rfl (by decide) v mb.length (mb.map (Value.int .u8)) (by simp [Act.eval]) (by exact World.ownsRow.drew b2)
            _ B.length (B.map (Value.int .u8)) (by simp [Act.eval]) hRB h1c hm1 hm2 ?_
          intro v' w' hap
          obtain ⟨a1, k1, rfl⟩ := hap.form
          have hb1 : Blk w' (w.heap.size + 1) 31 [v, .bool bad] := (b1.drew).keep hap.mod (fun e => (b4 _ e).2 rfl)
          have c1' := hb1.cell 0 rfl
          have d1' := hb1.free 0)
        all_goals
          go_wp2
          go_roundw
          case rel =>
            obtain ⟨G', hW', hA'⟩ := MW.pushed b1 b3 b4 (Mod.drew _ _) hap
            exact ⟨j + 1, s.map (· ++ B), (bad, mb ++ B), F1, G', hlt, by go_num, rfl, hS1.right hW' hA', hRel1, hsl1, hml1⟩
          case measure => simp [intOf]; omega
    · obtain rfl : j = n := by omega
      have hbdE : (s.getD []).length ≤ 1000000000 := by omega
      have hmE := hS.m
      obtain ⟨v, b1, b2, b3, b4, b5⟩ := hmE
      have m1 := hS.mod
      go_wp2_with fail
      refine (bytes_any w.heap.size _ s F hS.r hbdE).mono ?_
      rintro e wB ⟨vb, rfl, hfr, hMB, ab, cb, rfl⟩
      have c1 : wB.cell? ⟨w.heap.size + 1, 1, none⟩ = some (.bool bad) := (b1.keep hMB (fun e => e)).cell 1 rfl
      have c0 : wB.cell? ⟨w.heap.size + 1, 0, none⟩ = some v := (b1.keep hMB (fun e => e)).cell 0 rfl
      have mB := m1.trans hMB (H := fun _ => False) (fun _ _ e => e) (fun _ _ e => e)
      cases s with
      | none =>
        obtain rfl : bad = true := hRel.1
        go_wp2_with (go_at_call 8; refine (awake_any _).mono ?_; rintro e w9 ⟨rfl, hM9⟩)
        go_ret
        exact ⟨rfl, mB.trans hM9 (fun _ _ e => e) (fun _ _ e => e)⟩
      | some bs =>
        obtain rfl : bad = false := hRel.1
        obtain rfl : mb = bs := hRel.2 bs rfl
        have hov : wB.ownsRow 0 5 1 v mb.length (mb.map (Value.int .u8)) := Own.keep b2 hMB (fun _ _ e => e)
        obtain ⟨X, hX⟩ : ∃ X, strOf mb = X := ⟨_, rfl⟩
        have k1 := run_strS (P := Try.prog) wB.drew 26 9 5 Try.underlying26 Try.underlying5 Try.underlying9 (Rd.ofOwn hfr).drew
        have k2 := run_strS (P := Try.prog) wB.drew 26 9 5 Try.underlying26 Try.underlying5 Try.underlying9 (Rd.ofOwn hov).drew
        simp only [Option.getD_some] at k1
        rw [hX] at k1 k2
        clear hX hfr hov
        go_wp2_with fail
        go_still_tail 13, (by kernel_rfl)
        change wpList _ _ _ _ _ (World.drew wB)
        go_wp2_with (go_at_call 8; refine (awake_any _).mono ?_; rintro e w9 ⟨rfl, hM9⟩)
        go_ret
        exact ⟨rfl, mB.thenDrew.trans hM9 (fun _ _ e => e) (fun _ _ e => e)⟩

end Go.Proofs.Ytldnegadkadmkaa
