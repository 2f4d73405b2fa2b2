/- Nets: rows, Copy, by contract. -/
import Derived.Test.YtepnlijdnabllaaNet8
namespace Go.Proofs.Ytepnlijdnabllaa
open Go.RowKit Mile
set_option maxRecDepth 100000
/-- Rows told in new memory, each apart from the others. -/
def RowsP (T E : TypeId) (size n : Nat) (len : Nat → Nat) (xs : Nat → List Value) (w : World) (e : Ending) (w' : World) : Prop :=
  ∃ (b : Nat) (oa : Nat → Option Addr) (oc : Nat → Nat), e = .returned (.slice (some ⟨b, 0, none⟩) n n) ∧ w.heap.size ≤ b ∧ Blk w' b T ((List.range n).map fun v => .slice (oa v) (len v) (oc v)) ∧ (∀ v, v < n → w'.ownsRow w.heap.size E size (.slice (oa v) (len v) (oc v)) (len v) (xs v)) ∧ (∀ u v, u < n → v < n → u ≠ v → ∀ k, (Value.slice (oa u) 0 0).ownBlock = some k → (Value.slice (oa v) 0 0).ownBlock ≠ some k) ∧ Mod (fun _ => False) w w'

section
variable {w w' : World} {p n : Nat} {L : List Ar} {F : Nat → Prop}
/-- A net made by a call: all its memory is new. -/
def NewN (n : Nat) (L : List Ar) (w : World) (e : Ending) (w' : World) : Prop := ∃ q F', e = .returned (.pointer (some ⟨q, 0, none⟩)) ∧ NT w' q n L F' ∧ (∀ k, F' k → w.heap.size ≤ k) ∧ Mod (fun _ => False) w w'
theorem nt_has_nil (w : World) (v : Int) : Calls Try.prog 38 #[.pointer none, .int .i64 v] w fun e w' => e = .returned (.bool false) ∧ w = w' := by
  have HL := Lib.hid (nt_len_nil w)
  by_cases h0 : 0 ≤ v
  · have z0 : decide (0 ≤ v) = true := by simpa using h0
    have z1 : decide (v < 0) = false := by simpa using h0
    clear h0
    go_enter Try.func38, Try.ntmps38
    go_wp2_with fail
    refine HL.out.mono ?_
    rintro e w' ⟨rfl, rfl⟩
    go_wp2_with fail
    go_ret
    exact ⟨rfl, rfl⟩
  · have z0 : decide (0 ≤ v) = false := by simpa using h0
    clear h0
    go_enter Try.func38, Try.ntmps38
    go_wp2_with fail
    go_ret
    exact ⟨rfl, rfl⟩
theorem nt_fits_nil (w : World) (f t v m : Int) : Calls Try.prog 44 #[.pointer none, .agg #[.int .i64 f, .int .i64 t, .int .i64 v, .int .i64 m]] w fun e w' => e = .returned (.bool false) ∧ Mod (fun _ => False) w w' := by
  have HH := Lib.hid (fun wx => nt_has_nil wx f)
  go_enter Try.func44, Try.ntmps44
  go_wp2_with fail
  refine (HH.out _).mono ?_
  rintro e w' ⟨rfl, rfl⟩
  go_wp2_with fail
  go_ret
  exact ⟨rfl, Mod.alloc _ _ _⟩
theorem nt_put_nil (w : World) (f t v m : Int) : Calls Try.prog 45 #[.pointer none, .agg #[.int .i64 f, .int .i64 t, .int .i64 v, .int .i64 m]] w fun e w' => e = .returned (.bool false) ∧ Mod (fun _ => False) w w' := by
  have HH := Lib.hid (fun wx => nt_fits_nil wx f t v m)
  go_enter Try.func45, Try.ntmps45
  go_wp2_with fail
  refine (HH.out _).mono ?_
  rintro e w' ⟨rfl, hm⟩
  have HM := Lib.hid hm
  clear hm
  go_wp2_with fail
  go_ret
  exact ⟨rfl, (Mod.alloc (fun _ => False) w _).of2 HM.out⟩
end

end Go.Proofs.Ytepnlijdnabllaa
namespace Mile
open Go Go.RowKit
def putAllN (A : List Ar) : List Ar := A.foldl putN []
def newB (n : Int) (A : List Ar) : Bool := decide (0 ≤ n ∧ n ≤ 512) && A.all fun a => decide (mayA n.toNat a)
theorem putAllN_step (A : List Ar) (k : Nat) (h : k < A.length) : putAllN (A.take (k + 1)) = putN (putAllN (A.take k)) A[k] := by
  unfold putAllN; rw [take_at h, List.foldl_append]; rfl
end Mile
namespace Go.Proofs.Ytepnlijdnabllaa
open Go.RowKit Mile
set_option maxRecDepth 100000
theorem made_rows (w : World) (n : Nat) (T : TypeId) (len : Nat → Nat) (hl : ∀ z, len z = 0) : Blk (w.alloc (.cells (madeCells #[Value.slice none 0 0] n) T)) w.heap.size T ((List.range n).map fun z => .slice none (len z) 0) := by
  have h1 := Blk.new w T (madeCells #[Value.slice none 0 0] n).toList
  have h2 : (madeCells #[Value.slice none 0 0] n).toList = (List.range n).map fun z => Value.slice none (len z) 0 := by
    rw [show (madeCells #[Value.slice none 0 0] n).toList = List.replicate n (Value.slice none 0 0) from zrow_toList _ _]
    apply List.ext_getElem <;> simp [hl]
  have h3 : (((List.range n).map fun z => Value.slice none (len z) 0).toArray) = madeCells #[Value.slice none 0 0] n := by rw [← h2]
  rw [h2, h3] at h1
  exact h1
theorem NM.nil {w : World} {p n ob ib : Nat} (hb : Blk w p 65 [.slice (some ⟨ob, 0, none⟩) n n, .slice (some ⟨ib, 0, none⟩) n n]) (ho : Blk w ob 30 ((List.range n).map fun z : Nat => .slice none (outL [] (z : Int)).length 0)) (hi : Blk w ib 44 ((List.range n).map fun z : Nat => .slice none (inF [] (z : Int)).length 0)) :
    NM w p n ob ib (fun _ => none) (fun _ => none) (fun _ => 0) (fun _ => 0) (fun z : Nat => outL [] (z : Int)) (fun z : Nat => inF [] (z : Int)) :=
  ⟨hb, ho, hi, fun _ _ => World.ownsRow_nil _ _ _ _, fun _ _ => World.ownsRow_nil _ _ _ _, fun _ _ _ _ _ _ h => (by cases h), fun _ _ _ _ _ _ h => (by cases h)⟩
theorem made_net1 (w : World) (n : Nat) (hn : n ≤ 512) : ∃ F', NT (((w.alloc (.cells (madeCells #[Value.slice none 0 0] n) 30)).alloc (.cells (madeCells #[Value.slice none 0 0] n) 44)).alloc (.cells #[.slice (some ⟨w.heap.size, 0, none⟩) n n, .slice (some ⟨w.heap.size + 1, 0, none⟩) n n] 65)).drew (w.heap.size + 1 + 1) n [] F' ∧ (∀ k, F' k → w.heap.size ≤ k) ∧ Mod (fun _ => False) w (((w.alloc (.cells (madeCells #[Value.slice none 0 0] n) 30)).alloc (.cells (madeCells #[Value.slice none 0 0] n) 44)).alloc (.cells #[.slice (some ⟨w.heap.size, 0, none⟩) n n, .slice (some ⟨w.heap.size + 1, 0, none⟩) n n] 65)).drew := by
  have m1 := Mod.alloc (fun _ => False) w (.cells (madeCells #[Value.slice none 0 0] n) 30)
  have m2 := Mod.alloc (fun _ => False) (w.alloc (.cells (madeCells #[Value.slice none 0 0] n) 30)) (.cells (madeCells #[Value.slice none 0 0] n) 44)
  have m3 := Mod.alloc (fun _ => False) ((w.alloc (.cells (madeCells #[Value.slice none 0 0] n) 30)).alloc (.cells (madeCells #[Value.slice none 0 0] n) 44)) (.cells #[.slice (some ⟨w.heap.size, 0, none⟩) n n, .slice (some ⟨w.heap.size + 1, 0, none⟩) n n] 65)
  have m4 := Mod.drew (fun _ => False) (((w.alloc (.cells (madeCells #[Value.slice none 0 0] n) 30)).alloc (.cells (madeCells #[Value.slice none 0 0] n) 44)).alloc (.cells #[.slice (some ⟨w.heap.size, 0, none⟩) n n, .slice (some ⟨w.heap.size + 1, 0, none⟩) n n] 65))
  have hb := Blk.new ((w.alloc (.cells (madeCells #[Value.slice none 0 0] n) 30)).alloc (.cells (madeCells #[Value.slice none 0 0] n) 44)) 65 [.slice (some ⟨w.heap.size, 0, none⟩) n n, .slice (some ⟨w.heap.size + 1, 0, none⟩) n n]
  have h1 := ((made_rows w n 30 (fun z : Nat => (outL [] (z : Int)).length) (fun _ => rfl)).keep m2 (fun e => e)).keep m3 (fun e => e)
  have h2 := (made_rows (w.alloc (.cells (madeCells #[Value.slice none 0 0] n) 30)) n 44 (fun z : Nat => (inF [] (z : Int)).length) (fun _ => rfl)).keep m3 (fun e => e)
  have e1 : (w.alloc (.cells (madeCells #[Value.slice none 0 0] n) 30)).heap.size = w.heap.size + 1 := heap_size_alloc _ _
  have e2 : ((w.alloc (.cells (madeCells #[Value.slice none 0 0] n) 30)).alloc (.cells (madeCells #[Value.slice none 0 0] n) 44)).heap.size = w.heap.size + 1 + 1 := by rw [heap_size_alloc, e1]
  rw [e1] at h2
  rw [e2] at hb
  have hnm := (NM.nil hb h1 h2).later m4
  refine ⟨_, ⟨NetOk.nil n, hn, _, _, _, _, _, _, hnm, rfl⟩, fun k hk => ?_, ((m1.of2 m2).of2 m3).of2 m4⟩
  rcases hk with e | e | e | ⟨v, hv, e⟩ | ⟨v, hv, e⟩
  · omega
  · omega
  · omega
  · cases e
  · cases e
theorem made_net2 (w : World) (n : Nat) (hn : n ≤ 512) : ∃ F', NT (((w.alloc (.cells (madeCells #[Value.slice none 0 0] n) 44)).alloc (.cells (madeCells #[Value.slice none 0 0] n) 30)).alloc (.cells #[.slice (some ⟨w.heap.size + 1, 0, none⟩) n n, .slice (some ⟨w.heap.size, 0, none⟩) n n] 65)).drew (w.heap.size + 1 + 1) n [] F' ∧ (∀ k, F' k → w.heap.size ≤ k) ∧ Mod (fun _ => False) w (((w.alloc (.cells (madeCells #[Value.slice none 0 0] n) 44)).alloc (.cells (madeCells #[Value.slice none 0 0] n) 30)).alloc (.cells #[.slice (some ⟨w.heap.size + 1, 0, none⟩) n n, .slice (some ⟨w.heap.size, 0, none⟩) n n] 65)).drew := by
  have m1 := Mod.alloc (fun _ => False) w (.cells (madeCells #[Value.slice none 0 0] n) 44)
  have m2 := Mod.alloc (fun _ => False) (w.alloc (.cells (madeCells #[Value.slice none 0 0] n) 44)) (.cells (madeCells #[Value.slice none 0 0] n) 30)
  have m3 := Mod.alloc (fun _ => False) ((w.alloc (.cells (madeCells #[Value.slice none 0 0] n) 44)).alloc (.cells (madeCells #[Value.slice none 0 0] n) 30)) (.cells #[.slice (some ⟨w.heap.size + 1, 0, none⟩) n n, .slice (some ⟨w.heap.size, 0, none⟩) n n] 65)
  have m4 := Mod.drew (fun _ => False) (((w.alloc (.cells (madeCells #[Value.slice none 0 0] n) 44)).alloc (.cells (madeCells #[Value.slice none 0 0] n) 30)).alloc (.cells #[.slice (some ⟨w.heap.size + 1, 0, none⟩) n n, .slice (some ⟨w.heap.size, 0, none⟩) n n] 65))
  have hb := Blk.new ((w.alloc (.cells (madeCells #[Value.slice none 0 0] n) 44)).alloc (.cells (madeCells #[Value.slice none 0 0] n) 30)) 65 [.slice (some ⟨w.heap.size + 1, 0, none⟩) n n, .slice (some ⟨w.heap.size, 0, none⟩) n n]
  have h1 := ((made_rows w n 44 (fun z : Nat => (inF [] (z : Int)).length) (fun _ => rfl)).keep m2 (fun e => e)).keep m3 (fun e => e)
  have h2 := (made_rows (w.alloc (.cells (madeCells #[Value.slice none 0 0] n) 44)) n 30 (fun z : Nat => (outL [] (z : Int)).length) (fun _ => rfl)).keep m3 (fun e => e)
  have e1 : (w.alloc (.cells (madeCells #[Value.slice none 0 0] n) 44)).heap.size = w.heap.size + 1 := heap_size_alloc _ _
  have e2 : ((w.alloc (.cells (madeCells #[Value.slice none 0 0] n) 44)).alloc (.cells (madeCells #[Value.slice none 0 0] n) 30)).heap.size = w.heap.size + 1 + 1 := by rw [heap_size_alloc, e1]
  rw [e1] at h2
  rw [e2] at hb
  have hnm := (NM.nil hb h2 h1).later m4
  refine ⟨_, ⟨NetOk.nil n, hn, _, _, _, _, _, _, hnm, rfl⟩, fun k hk => ?_, ((m1.of2 m2).of2 m3).of2 m4⟩
  rcases hk with e | e | e | ⟨v, hv, e⟩ | ⟨v, hv, e⟩
  · omega
  · omega
  · omega
  · cases e
  · cases e
/-- What New tells. -/
def NewP (n : Int) (A : List Ar) (w : World) (e : Ending) (w' : World) : Prop :=
  (newB n A = true → ∃ q F', e = .returned (.tuple #[.pointer (some ⟨q, 0, none⟩), .int .i64 0]) ∧ NT w' q n.toNat (putAllN A) F' ∧ (∀ k, F' k → w.heap.size ≤ k) ∧ Mod (fun _ => False) w w') ∧
  (newB n A = false → e = .returned (.tuple #[.pointer none, .int .i64 1]) ∧ Mod (fun _ => False) w w')
set_option maxHeartbeats 8000000 in
theorem nt_new (w : World) (n : Int) (a : Option Addr) (ln c : Nat) (A : List Ar) (hA : A.length = ln) (hr : Rd w 4 (.slice a ln c) ln (A.flatMap c4)) (hb : ln ≤ 100000) : Calls Try.prog 27 #[.int .i64 n, .slice a ln c] w fun e w' => NewP n A w e w' := by
  by_cases h0 : 0 ≤ n
  case neg =>
    have hres : newB n A = false := by unfold newB; rw [decide_eq_false (by omega)]; rfl
    unfold NewP
    rw [hres]
    have z0 : decide (n < 0) = true := by simp; omega
    clear hr hA hres h0
    go_enter Try.func27, Try.ntmps27
    go_wp2_with fail
    go_ret2
    first | exact ⟨fun h => absurd h (by decide), fun _ => ⟨rfl, Mod.refl _ _⟩⟩ | exact ⟨rfl, Mod.refl _ _⟩
  have y0 : decide (n < 0) = false := by simp; omega
  by_cases h1 : n ≤ 512
  case neg =>
    have hres : newB n A = false := by unfold newB; rw [decide_eq_false (by omega)]; rfl
    unfold NewP
    rw [hres]
    have z0 : decide (512 < n) = true := by simp; omega
    clear hr hA hres h0
    go_enter Try.func27, Try.ntmps27
    go_wp2_with fail
    go_ret2
    first | exact ⟨fun h => absurd h (by decide), fun _ => ⟨rfl, Mod.refl _ _⟩⟩ | exact ⟨rfl, Mod.refl _ _⟩
  have y1 : decide (512 < n) = false := by simp; omega
  obtain ⟨n, rfl⟩ := Int.eq_ofNat_of_zero_le h0
  have hn : n ≤ 512 := by omega
  have hres : newB (n : Int) A = A.all fun a => decide (mayA n a) := by unfold newB; rw [decide_eq_true ⟨h0, h1⟩]; rfl
  unfold NewP
  rw [hres, show ((n : Int)).toNat = n from Int.toNat_natCast n]
  obtain ⟨iS, hiS, hzS, hsS, hbS⟩ := info_parts Nt.infoSA
  obtain ⟨iT, hiT, hzT, hsT, hbT⟩ := info_parts Nt.infoSI
  obtain ⟨iA, hiA, hzA, hsA, hbA⟩ := info_parts Nt.infoA
  have hmk := fun wx => run_makeSlice (P := Try.prog) (w := wx) 62 30 iS _ Try.underlying62 hiS hzS .i64 .i64 (n : Int) (n : Int) (by omega) (by omega) (by rw [hsS]; omega) (by rw [hbS]; omega) (by omega)
  have hml := fun wx => run_makeSlice (P := Try.prog) (w := wx) 63 44 iT _ Try.underlying63 hiT hzT .i64 .i64 (n : Int) (n : Int) (by omega) (by omega) (by rw [hsT]; omega) (by rw [hbT]; omega) (by omega)
  simp only [Int.toNat_natCast, hsS, hsT, Nat.mul_one] at hmk hml
  have HR := Lib.hid hr
  have HA := Lib.hid hA
  clear hr hA hres h0 h1
  go_enter Try.func27, Try.ntmps27
  go_upto_region 3 with fail
  go_cut [6] (fun s wx => ∃ q F', s = .pointer (some ⟨q, 0, none⟩) ∧ NT wx q n [] F' ∧ (∀ k, F' k → w.heap.size ≤ k) ∧ Mod (fun _ => False) w wx)
  case first =>
    go_region_law (fail)
    all_goals
      (try go_wp2_with fail)
      go_meet
      first
        | (obtain ⟨F', h⟩ := made_net1 w n hn; exact ⟨_, F', rfl, h⟩)
        | (obtain ⟨F', h⟩ := made_net2 w n hn; exact ⟨_, F', rfl, h⟩)
  case rest =>
    obtain ⟨q, F0, rfl, hnt, hnw, hmd⟩ := hcut
    have HX := Lib.hid (And.intro hnt (And.intro hnw hmd))
    clear hnt hnw hmd hmk hml
    go_wp2_with fail
    go_loopw [23] (fun jv wr => ∃ (k : Nat) (F1 : Nat → Prop), jv = .int .i64 (k : Int) ∧ k ≤ ln ∧ (∀ b ∈ A.take k, mayA n b) ∧ NT wr q n (putAllN (A.take k)) F1 ∧ (∀ j, F1 j → w.heap.size ≤ j) ∧ Mod (fun _ => False) w wr) (fun jv _ => ln - (intOf jv).toNat)
    case atStart => exact ⟨0, F0, rfl, Nat.zero_le _, fun b hb => by simp at hb, HX.out.1, HX.out.2.1, HX.out.2.2⟩
    case round =>
      obtain ⟨k, F1, rfl, hk, hall, hnt, hnw, hmd⟩ := hrel
      obtain ⟨w2, hw2⟩ : ∃ x : World, x = wr := ⟨_, rfl⟩
      subst hw2
      by_cases hkl : k < ln
      case neg =>
        obtain rfl : k = ln := by omega
        have z0 : decide ((k : Int) < (k : Int)) = false := by simp
        have HY := Lib.hid (And.intro hnt (And.intro hnw hmd))
        have HALL := Lib.hid hall
        clear hnt hnw hmd hall
        go_wp2_with fail
        go_ret2
        have ht : A.take k = A := List.take_of_length_le (Nat.le_of_eq HA.out)
        have hy := HY.out
        have ha := HALL.out
        rw [ht] at hy ha
        have hb : (A.all fun a => decide (mayA n a)) = true := List.all_eq_true.2 fun b hb => decide_eq_true (ha b hb)
        rw [hb]
        exact ⟨fun _ => ⟨q, F1, rfl, hy⟩, fun h => absurd h (by decide)⟩
      case pos =>
        have z0 : decide ((k : Int) < (ln : Int)) = true := by simp; omega
        have hkR : k < A.length := by rw [HA.out]; exact hkl
        have hrd := HR.out.keep hmd (fun _ _ e => e)
        obtain ⟨eb, eo, hpe, e0, e1, e2, e3⟩ := rd4 hrd k hkR
        have hstep := putAllN_step A k hkR
        have htk := take_at hkR
        have hmem : A[k] ∈ A := List.getElem_mem hkR
        obtain ⟨b, hb⟩ : ∃ b, A[k] = b := ⟨_, rfl⟩
        rw [hb] at e0 e1 e2 e3 hstep htk hmem
        obtain ⟨f, t, v, m⟩ := b
        simp only at e0 e1 e2 e3
        have hiz := fun wx => run_indexS (P := Try.prog) wx 30 42 iA 4 Try.underlying30 hiA hsA a ln c k hkl (hrd.some_ (by omega))
        rw [hpe] at hiz
        have hk1 : IntKind.i64.wrap ((k : Int) + 1) = ((k + 1 : Nat) : Int) := by rw [IntWalk.i64_in _ (by omega)]; omega
        have HK1 := Lib.hid hk1
        have HNT := Lib.hid hnt
        have HNW := Lib.hid hnw
        have HMD := Lib.hid hmd
        have HALL := Lib.hid hall
        have HST := Lib.hid hstep
        have HTK := Lib.hid htk
        have HMEM := Lib.hid hmem
        clear hk1 hnt hnw hmd hall hstep htk hmem hb hrd hpe hkR
        go_upto_region 7 with fail
        obtain ⟨g, hg⟩ : ∃ y, w2.heap.size = y := ⟨_, rfl⟩
        obtain ⟨w5, hw5⟩ : ∃ y, w2.alloc (.cells #[.int .i64 f, .int .i64 t, .int .i64 v, .int .i64 m] 42) = y := ⟨_, rfl⟩
        have hg5 : Blk w5 g 42 [.int .i64 f, .int .i64 t, .int .i64 v, .int .i64 m] := by rw [← hw5, ← hg]; exact Blk.new w2 42 [.int .i64 f, .int .i64 t, .int .i64 v, .int .i64 m]
        have hm5 : Mod (fun _ => False) w2 w5 := by rw [← hw5]; exact Mod.alloc _ _ _
        (try rw [hw5])
        (try rw [hg])
        have g0 := hg5.cell 0 rfl
        have g1 := hg5.cell 1 rfl
        have g2 := hg5.cell 2 rfl
        have g3 := hg5.cell 3 rfl
        have hgF : ¬ F1 g := fun e => by have := HNT.out.lt g e; omega
        have HGF := Lib.hid hgF
        have HG5 := Lib.hid hg5
        have HM5 := Lib.hid hm5
        clear hg hw5 hg5 hm5 e0 e1 e2 e3 hiz hgF
        by_cases hmay : mayA n ⟨f, t, v, m⟩
        case neg =>
          have HFI := Lib.hid (nt_fits (HNT.out.later HM5.out) f t v m false (decide_eq_false hmay))
          have HMAY := Lib.hid hmay
          clear hmay
          go_wp2_with fail
          refine HFI.out.mono ?_
          rintro e w6 ⟨rfl, hm6⟩
          have HM6 := Lib.hid hm6
          clear hm6 g0 g1 g2 g3
          go_wp2_with fail
          go_ret2
          have hb : (A.all fun a => decide (mayA n a)) = false := by
            cases hh : (A.all fun a => decide (mayA n a)) with
            | false => rfl
            | true => exact absurd (of_decide_eq_true (List.all_eq_true.1 hh _ HMEM.out)) HMAY.out
          rw [hb]
          exact ⟨fun h => absurd h (by decide), fun _ => ⟨rfl, (HMD.out.of2 HM5.out).of2 HM6.out⟩⟩
        case pos =>
          have HFI := Lib.hid (nt_fits (HNT.out.later HM5.out) f t v m true (decide_eq_true hmay))
          have HMAY := Lib.hid hmay
          clear hmay
          go_wp2_with fail
          refine HFI.out.mono ?_
          rintro e w6 ⟨rfl, hm6⟩
          have hg6 := HG5.out.keep hm6 (fun e => e)
          clear g0 g1 g2 g3
          have g0 := hg6.cell 0 rfl
          have g1 := hg6.cell 1 rfl
          have g2 := hg6.cell 2 rfl
          have g3 := hg6.cell 3 rfl
          have HM6 := Lib.hid hm6
          clear hm6 hg6
          go_wp2_with fail
          refine (nt_put (HNT.out.later (HM5.out.of2 HM6.out)) f t v m).mono ?_
          rintro e w7 ⟨rfl, F7, hnt7, hnw7, hm7⟩
          have hpr : putR n (putAllN (A.take k)) ⟨f, t, v, m⟩ = putAllN (A.take (k + 1)) := by rw [HST.out]; exact if_pos HMAY.out
          rw [hpr] at hnt7
          have hsz := (HMD.out.of2 (HM5.out.of2 HM6.out)).size
          have hmd7 : Mod (fun _ => False) w w7 := (HMD.out.of2 (HM5.out.of2 HM6.out)).trans hm7 (fun _ _ e => e.elim) (fun k hk e => by have := HNW.out k e; omega)
          have hnw8 : ∀ j, F7 j → w.heap.size ≤ j := fun j hj => (hnw7 j hj).elim (HNW.out j) (fun e => Nat.le_trans hsz e)
          have hall8 : ∀ b ∈ A.take (k + 1), mayA n b := fun b hb => by
            rw [HTK.out] at hb
            rcases List.mem_append.1 hb with h | h
            · exact HALL.out b h
            · rw [List.mem_singleton.1 h]; exact HMAY.out
          have HY := Lib.hid (And.intro hall8 (And.intro hnt7 (And.intro hnw8 hmd7)))
          have hk1 := HK1.out
          clear hnt7 hnw7 hm7 hmd7 hnw8 hall8 g0 g1 g2 g3 hpr
          go_wp2_with fail
          go_roundw
          case rel => exact ⟨k + 1, F7, rfl, by omega, HY.out⟩
          case measure => simp [intOf]; omega
end Go.Proofs.Ytepnlijdnabllaa
