/- The document's own net: NewNet, by contract. -/
import Derived.Test.YtjjedebjbgpimaaGreatRN3
namespace Mile
open Go Go.RowKit
theorem newN_len (L : List Ar) (a : Ar) : (newN L a).length ≤ L.length + 1 := by
  have h : ∀ L : List Ar, (ltN L a).length + (gtN L a).length ≤ L.length := fun L => by
    induction L with
    | nil => exact Nat.le_refl _
    | cons b L ih =>
      unfold ltN gtN at *
      rw [List.filter_cons, List.filter_cons]
      by_cases h1 : keyLt b a
      · have h2 : ¬ keyLt a b := fun h2 => keyLt.irr (h1.trans h2)
        rw [if_pos (decide_eq_true h1), if_neg (by simpa using h2)]
        simp only [List.length_cons]; omega
      · rw [if_neg (by simpa using h1)]
        split <;> simp only [List.length_cons] <;> omega
  have := h L
  unfold newN
  rw [List.length_append, List.length_cons]; omega
theorem putN_len (L : List Ar) (a : Ar) : (putN L a).length ≤ L.length + 1 := by
  unfold putN; split
  · exact newN_len L a
  · omega
theorem putAll_ok {n : Nat} (A : List Ar) : ∀ L, NetOk n L → (∀ b ∈ A, mayA n b) → NetOk n (A.foldl putN L) ∧ (A.foldl putN L).length ≤ L.length + A.length := by
  induction A with
  | nil => intro L h _; exact ⟨h, Nat.le_refl _⟩
  | cons a A ih =>
    intro L h ha
    obtain ⟨h1, h2⟩ := ih (putN L a) (h.put (ha a List.mem_cons_self)) (fun b hb => ha b (List.mem_cons_of_mem _ hb))
    refine ⟨h1, ?_⟩
    have := putN_len L a
    rw [List.foldl_cons, List.length_cons]
    omega
end Mile
namespace Go.Proofs.YtjjedebjbgpimaaGreat
open Go.RowKit Mile
set_option maxRecDepth 100000
def RNewPG (n : Int) (A : List Ar) (w : World) (e : Ending) (w' : World) : Prop :=
  (newB n A = true → ∃ q, e = .returned (.pointer (some ⟨q, 0, none⟩)) ∧ RNG w' q n.toNat (putAllN A) (fun k => w.heap.size ≤ k ∧ k < w'.heap.size) ∧ w.heap.size ≤ q ∧ Mod (fun _ => False) w w') ∧
  (newB n A = false → e = .returned (.pointer none) ∧ Mod (fun _ => False) w w')
set_option maxHeartbeats 8000000 in
theorem rn_newG (w : World) (n : Int) (a : Option Addr) (ln c : Nat) (A : List Ar) (hA : A.length = ln) (hr : Rd w 4 (.slice a ln c) ln (A.flatMap c4)) (hb : ln ≤ 5000) : Calls Tryz.prog 52 #[.int .i64 n, .slice a ln c] w fun e w' => RNewPG n A w e w' := by
  have HWI := Lib.hid (fun W => rnw_any n 0 512 W)
  by_cases h0 : 0 ≤ n ∧ n ≤ 512
  case neg =>
    have hres : newB n A = false := by unfold newB; rw [decide_eq_false h0]; rfl
    rw [decide_eq_false h0] at HWI
    have HRES := Lib.hid hres
    clear hr hA hres h0
    go_enter Tryz.func52, Tryz.ntmps52
    go_wp2_with fail
    refine (HWI.out _).mono ?_
    rintro e w' ⟨rfl, rfl⟩
    go_wp2_with fail
    go_ret
    exact ⟨fun h => absurd (h.symm.trans HRES.out) (by decide), fun _ => ⟨rfl, Mod.refl _ _⟩⟩
  rw [decide_eq_true h0] at HWI
  obtain ⟨n, rfl⟩ := Int.eq_ofNat_of_zero_le h0.1
  have hn : n ≤ 512 := by omega
  have hres : newB (n : Int) A = A.all fun a => decide (mayA n a) := by unfold newB; rw [decide_eq_true h0]; rfl
  have HRES := Lib.hid hres
  obtain ⟨iA, hiA, hzA, hsA, hbA⟩ := info_parts Nt.infoA
  have HR := Lib.hid hr
  have HA := Lib.hid hA
  clear hr hA hres h0
  obtain ⟨q, hq⟩ : ∃ y, w.heap.size = y := ⟨_, rfl⟩
  obtain ⟨w1, hw1⟩ : ∃ y, w.alloc (.cells #[.int .i64 (n : Int), .slice none 0 0] 37) = y := ⟨_, rfl⟩
  have hb1 : Blk w1 q 37 [.int .i64 (n : Int), .slice none 0 0] := by rw [← hw1, ← hq]; exact Blk.new w 37 [.int .i64 (n : Int), .slice none 0 0]
  have hm1 : Mod (fun _ => False) w w1 := by rw [← hw1]; exact Mod.alloc _ _ _
  have hrn : RNG w1 q n [] (fun _ => False) := ⟨none, 0, hb1, Rd.ofOwn (World.ownsRow_nil w1 0 50 4), fun k hk => by cases hk⟩
  have HB1 := Lib.hid hb1
  have HM1 := Lib.hid hm1
  have HRN := Lib.hid hrn
  clear hb1 hm1 hrn
  go_enter Tryz.func52, Tryz.ntmps52
  go_wp2_with fail
  refine (HWI.out _).mono ?_
  rintro e w' ⟨rfl, rfl⟩
  go_wp2_with fail
  (try rw [hw1])
  (try rw [hq])
  have HQ := Lib.hid hq
  clear hw1 hq HWI
  go_loopw [6] (fun jv wr => ∃ k : Nat, jv = .int .i64 (k : Int) ∧ k ≤ ln ∧ (∀ b ∈ A.take k, mayA n b) ∧ Mod (fun _ => False) w1 wr) (fun jv _ => ln - (intOf jv).toNat)
  case atStart => exact ⟨0, rfl, Nat.zero_le _, fun b hb => by simp at hb, Mod.refl _ _⟩
  case round =>
    obtain ⟨k, rfl, hk, hall, hmd⟩ := hrel
    obtain ⟨w2, hw2⟩ : ∃ x : World, x = wr := ⟨_, rfl⟩
    subst hw2
    have hrd := (HR.out.keep HM1.out (fun _ _ e => e)).keep hmd (fun _ _ e => e)
    have HALL := Lib.hid hall
    have HMD := Lib.hid hmd
    clear hall hmd
    by_cases hkl : k < ln
    case pos =>
      have z0 : decide ((k : Int) < (ln : Int)) = true := by simp; omega
      have hkR : k < A.length := by rw [HA.out]; exact hkl
      obtain ⟨eb, eo, hpe, e0, e1, e2, e3⟩ := rd4 hrd k hkR
      have htk := take_at hkR
      have hmem : A[k] ∈ A := List.getElem_mem hkR
      obtain ⟨b, hb⟩ : ∃ b, A[k] = b := ⟨_, rfl⟩
      rw [hb] at e0 e1 e2 e3 htk hmem
      obtain ⟨f, t, v, m⟩ := b
      simp only at e0 e1 e2 e3
      have hiz := fun wx => run_indexS (P := Tryz.prog) wx 34 50 iA 4 Tryz.underlying34 hiA hsA a ln c k hkl (hrd.some_ (by omega))
      rw [hpe] at hiz
      have hk1 : IntKind.i64.wrap ((k : Int) + 1) = ((k + 1 : Nat) : Int) := by rw [IntWalk.i64_in _ (by omega)]; omega
      have HTK := Lib.hid htk
      have HMEM := Lib.hid hmem
      have HBM := Lib.hid (fun r hr => rn_may (HB1.out.keep HMD.out (fun e => e)) hn f t v m r hr)
      clear htk hmem hb hrd hpe hkR
      go_wp2_with fail
      by_cases hmay : mayA n ⟨f, t, v, m⟩
      case neg =>
        refine (HBM.out false (decide_eq_false hmay)).mono ?_
        rintro e w6 ⟨rfl, hm6⟩
        have HM6 := Lib.hid hm6
        have HMAY := Lib.hid hmay
        clear hm6 hmay e0 e1 e2 e3 hiz
        go_wp2_with fail
        go_ret
        have hb : (A.all fun a => decide (mayA n a)) = false := by
          cases hh : (A.all fun a => decide (mayA n a)) with
          | false => rfl
          | true => exact absurd (of_decide_eq_true (List.all_eq_true.1 hh _ HMEM.out)) HMAY.out
        exact ⟨fun h => absurd (h.symm.trans (HRES.out.trans hb)) (by decide), fun _ => ⟨rfl, (HM1.out.of2 HMD.out).of2 HM6.out⟩⟩
      case pos =>
        refine (HBM.out true (decide_eq_true hmay)).mono ?_
        rintro e w6 ⟨rfl, hm6⟩
        have hall8 : ∀ b ∈ A.take (k + 1), mayA n b := fun b hb => by
          rw [HTK.out] at hb
          rcases List.mem_append.1 hb with h | h
          · exact HALL.out b h
          · rw [List.mem_singleton.1 h]; exact hmay
        have HA8 := Lib.hid hall8
        have HM6 := Lib.hid (HMD.out.of2 hm6)
        clear hm6 hmay e0 e1 e2 e3 hiz hall8
        go_wp2_with fail
        go_roundw
        case rel => exact ⟨k + 1, rfl, by omega, HA8.out, HM6.out⟩
        case measure => simp [intOf]; omega
    case neg =>
      obtain rfl : k = ln := by omega
      have z0 : decide ((k : Int) < (k : Int)) = false := by simp
      clear hrd
      have ht : A.take k = A := List.take_of_length_le (Nat.le_of_eq HA.out)
      have hall := HALL.out
      rw [ht] at hall
      have HAL := Lib.hid hall
      have HRN2 := Lib.hid (HRN.out.later HMD.out)
      clear hall ht
      go_wp2_with fail
      go_loopw [7] (fun jv wr => ∃ j : Nat, jv = .int .i64 (j : Int) ∧ j ≤ k ∧ RNG wr q n (putAllN (A.take j)) (fun k => w.heap.size ≤ k ∧ k < wr.heap.size) ∧ Mod (fun _ => False) w wr) (fun jv _ => k - (intOf jv).toNat)
      case atStart => exact ⟨0, rfl, Nat.zero_le _, by rw [List.take_zero]; exact HRN2.out.mono (fun _ e => e.elim), HM1.out.of2 HMD.out⟩
      case round =>
        obtain ⟨j, rfl, hj, hnt, hmd⟩ := hrel
        obtain ⟨w3, hw3⟩ : ∃ x : World, x = wr := ⟨_, rfl⟩
        subst hw3
        have hrd := HR.out.keep hmd (fun _ _ e => e)
        have HNT := Lib.hid hnt
        have HMJ := Lib.hid hmd
        clear hnt hmd
        by_cases hjl : j < k
        case pos =>
          have z1 : decide ((j : Int) < (k : Int)) = true := by simp; omega
          have hkR : j < A.length := by rw [HA.out]; exact hjl
          obtain ⟨eb, eo, hpe, e0, e1, e2, e3⟩ := rd4 hrd j hkR
          have hstep := putAllN_step A j hkR
          have hmem : A[j] ∈ A := List.getElem_mem hkR
          obtain ⟨b, hb⟩ : ∃ b, A[j] = b := ⟨_, rfl⟩
          rw [hb] at e0 e1 e2 e3 hstep hmem
          obtain ⟨f, t, v, m⟩ := b
          simp only at e0 e1 e2 e3
          have hiz := fun wx => run_indexS (P := Tryz.prog) wx 34 50 iA 4 Tryz.underlying34 hiA hsA a k c j hjl (hrd.some_ (by omega))
          rw [hpe] at hiz
          have hk1 : IntKind.i64.wrap ((j : Int) + 1) = ((j + 1 : Nat) : Int) := by rw [IntWalk.i64_in _ (by omega)]; omega
          have hmay := HAL.out _ hmem
          have hoks := putAll_ok (A.take j) [] (NetOk.nil n) (fun b hb => HAL.out b (List.mem_of_mem_take hb))
          have hle : (putAllN (A.take j)).length ≤ 10000 := by
            have h1 := hoks.2
            rw [List.length_take] at h1
            unfold putAllN
            simp only [List.length_nil] at h1
            omega
          have HPU := Lib.hid (rn_putG HNT.out hoks.1 hn hle f t v m)
          have hpr : putR n (putAllN (A.take j)) ⟨f, t, v, m⟩ = putAllN (A.take (j + 1)) := by rw [hstep]; exact if_pos hmay
          have HPR := Lib.hid hpr
          clear hstep hmem hb hrd hpe hkR hmay hoks hle hpr
          go_wp2_with fail
          refine HPU.out.mono ?_
          rintro e w7 ⟨rfl, hnt7, hm7⟩
          rw [HPR.out] at hnt7
          replace hnt7 := hnt7.mono (H := fun k => w.heap.size ≤ k ∧ k < w7.heap.size) (fun k e => e.elim (fun x => ⟨x.1, Nat.lt_of_lt_of_le x.2 hm7.size⟩) (fun x => ⟨Nat.le_trans HMJ.out.size x.1, x.2⟩))
          have hmd7 : Mod (fun _ => False) w w7 := HMJ.out.trans hm7 (fun _ _ e => e) (fun i hi e => by have := HQ.out; omega)
          have HY := Lib.hid (And.intro hnt7 hmd7)
          clear hnt7 hm7 hmd7 e0 e1 e2 e3 hiz
          go_wp2_with fail
          go_roundw
          case rel => exact ⟨j + 1, rfl, by omega, HY.out⟩
          case measure => simp [intOf]; omega
        case neg =>
          obtain rfl : j = k := by omega
          have z1 : decide ((j : Int) < (j : Int)) = false := by simp
          clear hrd
          go_wp2_with fail
          go_ret
          have ht : A.take j = A := List.take_of_length_le (Nat.le_of_eq HA.out)
          have hnt := HNT.out
          rw [ht] at hnt
          have hb : (A.all fun a => decide (mayA n a)) = true := List.all_eq_true.2 fun b hb => decide_eq_true (HAL.out b hb)
          exact ⟨fun _ => ⟨q, rfl, hnt, Nat.le_of_eq HQ.out, HMJ.out⟩, fun h => absurd (h.symm.trans (HRES.out.trans hb)) (by decide)⟩
def RNewP (n : Int) (A : List Ar) (w : World) (e : Ending) (w' : World) : Prop :=
  (newB n A = true → ∃ q, e = .returned (.pointer (some ⟨q, 0, none⟩)) ∧ RN w' q n.toNat (putAllN A) ∧ w.heap.size ≤ q ∧ Mod (fun _ => False) w w') ∧
  (newB n A = false → e = .returned (.pointer none) ∧ Mod (fun _ => False) w w')
theorem rn_new (w : World) (n : Int) (a : Option Addr) (ln c : Nat) (A : List Ar) (hA : A.length = ln) (hr : Rd w 4 (.slice a ln c) ln (A.flatMap c4)) (hb : ln ≤ 5000) : Calls Tryz.prog 52 #[.int .i64 n, .slice a ln c] w fun e w' => RNewP n A w e w' :=
  (rn_newG w n a ln c A hA hr hb).mono fun _ _ h => ⟨fun hb => by
    obtain ⟨q, h1, h2, h3⟩ := h.1 hb
    exact ⟨q, h1, h2.rn, h3⟩, h.2⟩
end Go.Proofs.YtjjedebjbgpimaaGreat
