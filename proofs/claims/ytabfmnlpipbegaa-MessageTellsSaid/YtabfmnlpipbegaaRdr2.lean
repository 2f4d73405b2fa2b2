/- Contracts of package octets: Reader.Num, Raw, Left, Done, Read; nil Readers. -/
import Derived.Test.YtabfmnlpipbegaaRdr
import Derived.Lib.Hide
namespace Go.Proofs.Ytabfmnlpipbegaa
open Go.RowKit Mile
set_option maxRecDepth 100000

/-- What Num tells, and what is left. -/
def numR (size : Int) (s : Option (List Int)) : Int × Option (List Int) :=
  if sizeOk size then (undigs 0 (takeS size s).1, (takeS size s).2) else (0, none)

theorem takeS_len (n : Int) (s : Option (List Int)) : ((takeS n s).1.length : Int) ≤ if 0 ≤ n then n else 0 := by
  unfold takeS
  split
  · rename_i h
    rw [if_pos h.1]
    simp; omega
  · simp; split <;> omega

set_option maxHeartbeats 1000000 in
theorem num_any (p : Nat) (w : World) (s : Option (List Int)) (F : Nat → Prop) (h : Rdr w p s F) (hr : ∀ b ∈ s.getD [], 0 ≤ b ∧ b < 256) (size : Int) :
    Calls Try.prog 47 #[.pointer (some ⟨p, 0, none⟩), .int .i64 size] w fun e w' =>
      e = .returned (.int .i64 (numR size s).1) ∧ Rdr w' p (numR size s).2 F ∧ Mod (fun k => k = p) w w' := by
  by_cases hok : sizeOk size = true
  · have e0 : numR size s = (undigs 0 (takeS size s).1, (takeS size s).2) := by simp only [numR, hok, if_true]
    rw [e0]
    obtain ⟨L, hL⟩ : ∃ L, (takeS size s).1 = L := ⟨_, rfl⟩
    have hs : 1 ≤ size ∧ size ≤ 7 := by simpa [sizeOk] using hok
    have hlen := takeS_len size s
    rw [if_pos (by omega)] at hlen
    have hr2 : ∀ b ∈ (takeS size s).1, 0 ≤ b ∧ b < 256 := by
      unfold takeS
      split
      · intro b hb; exact hr b (List.mem_of_mem_take hb)
      · simp
    rw [hL] at hlen hr2 ⊢
    have HL := Lib.hid hL
    clear hL e0
    go_enter Try.func47, Try.ntmps47
    go_wp2_with (go_at_call 41; refine (sizeFits_any _ _).mono ?_; rintro e w' ⟨rfl, rfl⟩)
    refine (take_any p _ s F h size).mono ?_
    rintro e w1 ⟨v', rfl, hrd, _, hR, hM⟩
    rw [HL.out] at hrd
    rcases hrd.shape with ⟨hn, _, a, c, rfl⟩ | ⟨_, b, off, c, rfl, _, _⟩
    · obtain rfl : L = [] := List.eq_nil_of_length_eq_zero hn
      go_wp2
      refine wp_loop_rounds 1 ?_
      rw [rounds_succ]
      go_wp2
      go_ret
      exact ⟨rfl, hR, hM⟩
    · go_wp2
      go_loop [5, 17] (fun n i => ∃ k : Nat, k ≤ L.length ∧ i = .int .i64 k ∧ n = .int .i64 (undigs 0 (L.take k))) (fun _ i => L.length - (intOf i).toNat)
      case atStart => exact ⟨0, Nat.zero_le _, rfl, rfl⟩
      case round =>
        obtain ⟨k, hk, rfl, rfl⟩ := hrel
        by_cases hlt : k < L.length
        · have hcell : w1.cell? ⟨b, off + k, none⟩ = some (.int .u8 L[k]) := hrd.at_ (by simp [hlt])
          have hb := hr2 L[k] (List.getElem_mem hlt)
          have hu0 := undigs_nonneg (L.take k) 0 (by omega) (fun c hc => hr2 c (List.mem_of_mem_take hc))
          have hu1 := undigs_bound (L.take k) 0 (by omega) (fun c hc => hr2 c (List.mem_of_mem_take hc))
          have hst := undigs_take L k hlt
          have hp6 := pow256_le (L.take k).length (by rw [List.length_take]; omega)
          generalize undigs 0 (L.take k) = U at *
          have HST := Lib.hid hst
          clear hst
          have hu2 : U < 281474976710656 := by omega
          clear hu1
          go_wp2
          go_round
          case rel =>
            exact ⟨k + 1, hlt, by go_num, by rw [HST.out, or_byte U _ hu0 (by omega) hb.1 hb.2]⟩
          case measure => simp [intOf]; omega
        · go_wp2
          go_ret
          have : k = L.length := by omega
          subst this
          rw [List.take_length]
          exact ⟨rfl, hR, hM⟩
  · simp only [Bool.not_eq_true] at hok
    have e0 : numR size s = (0, none) := by simp [numR, hok]
    rw [e0]
    go_enter Try.func47, Try.ntmps47
    go_wp2_with (first | (go_at_call 41; refine (sizeFits_any _ _).mono ?_; rintro e w' ⟨rfl, rfl⟩) | (go_at_call 54; refine (rspoil_any p _ _ _ h).mono ?_; rintro e w' ⟨rfl, hR, hM⟩))
    go_ret
    exact ⟨rfl, hR, hM⟩

theorem num_nil (w : World) (size : Int) :
    Calls Try.prog 47 #[.pointer none, .int .i64 size] w fun e w' => e = .returned (.int .i64 0) ∧ w = w' := by
  by_cases hok : sizeOk size = true
  · go_enter Try.func47, Try.ntmps47
    go_wp2_with (first | (go_at_call 41; refine (sizeFits_any _ _).mono ?_; rintro e w' ⟨rfl, rfl⟩) | (go_at_call 55; refine (take_nil _ _).mono ?_; rintro e w' ⟨rfl, rfl⟩))
    refine wp_loop_rounds 1 ?_
    rw [rounds_succ]
    go_wp2
    go_ret
    exact ⟨rfl, rfl⟩
  · simp only [Bool.not_eq_true] at hok
    go_enter Try.func47, Try.ntmps47
    go_wp2_with (first | (go_at_call 41; refine (sizeFits_any _ _).mono ?_; rintro e w' ⟨rfl, rfl⟩) | (go_at_call 54; refine (rspoil_nil _).mono ?_; rintro e w' ⟨rfl, rfl⟩))
    go_ret
    exact ⟨rfl, rfl⟩

/-- Raw: the next n bytes, in new memory. -/
theorem rraw_any (p : Nat) (w : World) (s : Option (List Int)) (F : Nat → Prop) (h : Rdr w p s F) (n : Int) (hbd : (s.getD []).length ≤ 1000000000) :
    Calls Try.prog 51 #[.pointer (some ⟨p, 0, none⟩), .int .i64 n] w fun e w' =>
      ∃ v', e = .returned v' ∧ Fresh w' w.heap.size v' (takeS n s).1 ∧ Rdr w' p (takeS n s).2 F ∧ Mod (fun k => k = p) w w' := by
  have hlen : (takeS n s).1.length ≤ 1000000000 := by
    unfold takeS
    split
    · simp; omega
    · simp
  have hFs : ∀ k, F k → k < w.heap.size := by obtain ⟨_, _, _, _, _, h5⟩ := h; exact h5
  go_enter Try.func51, Try.ntmps51
  go_wp2_with (first | (go_at_call 55; refine (take_any p _ s F h n).mono ?_; rintro e w1 ⟨v1, rfl, hrd, _, hR, hM⟩) | (go_at_call 44; refine (clone_any _ v1 _ hrd hlen).mono ?_; rintro e w2 ⟨v2, rfl, hfr, hM2, _⟩))
  go_ret
  refine ⟨v2, rfl, Own.base hfr hM.size, hR.keep hM2 (fun _ _ e => e), hM.trans hM2 (fun _ _ e => e) (fun _ _ e => e.elim)⟩

/-- Is all read, and nothing spoilt? -/
def doneS (s : Option (List Int)) : Int := if s = some [] then 0 else 2
theorem done_any (p : Nat) (w : World) (s : Option (List Int)) (F : Nat → Prop) (h : Rdr w p s F) :
    Calls Try.prog 52 #[.pointer (some ⟨p, 0, none⟩)] w fun e w' => e = .returned (.int .i64 (doneS s)) ∧ w = w' := by
  obtain ⟨v, h1, h2, _⟩ := h
  obtain ⟨_, a, c, rfl, _⟩ := h2
  have f0 := h1.cell 0 rfl
  have f1 := h1.cell 1 rfl
  match s with
  | none =>
    go_enter Try.func52, Try.ntmps52
    go_wp2
    go_ret
    exact ⟨rfl, rfl⟩
  | some [] =>
    go_enter Try.func52, Try.ntmps52
    go_wp2
    go_ret
    exact ⟨rfl, rfl⟩
  | some (b :: l) =>
    have hl : (0 : Int) < ((b :: l).length : Int) := by simp
    go_enter Try.func52, Try.ntmps52
    go_wp2
    go_ret
    exact ⟨rfl, rfl⟩

theorem done_nil (w : World) :
    Calls Try.prog 52 #[.pointer none] w fun e w' => e = .returned (.int .i64 2) ∧ w = w' := by
  go_enter Try.func52, Try.ntmps52
  go_wp2
  go_ret
  exact ⟨rfl, rfl⟩

/-- Read: a new Reader. -/
theorem read_any (w : World) (v : Value) (bs : List Int) (hrd : Rd w 1 v bs.length (bs.map (Value.int .u8))) (hbd : bs.length ≤ 1000000000) :
    Calls Try.prog 46 #[v] w fun e w' => ∃ p F, e = .returned (.pointer (some ⟨p, 0, none⟩)) ∧ Rdr w' p (some bs) F ∧ (∀ k, F k → w.heap.size ≤ k) ∧ Mod (fun _ => False) w w' := by
  go_enter Try.func46, Try.ntmps46
  go_wp2_with (go_at_call 44; refine (clone_any w v bs hrd hbd).mono ?_; rintro e w1 ⟨v1, rfl, hfr, hM, a1, c1, rfl⟩)
  go_ret
  have hsz := hM.size
  refine ⟨w1.heap.size, fun k => k = w1.heap.size ∨ (Value.slice a1 bs.length c1).ownBlock = some k, rfl, ⟨_, Blk.new w1 _ [.slice a1 bs.length c1, .bool false], ?_, .inl rfl, fun k hk => ⟨.inr hk, ?_⟩, ?_⟩, ?_, hM.thenAlloc _⟩
  · exact (Rd.ofOwn hfr).alloc _
  · have := (hfr.lt k hk).2; omega
  · rintro k (rfl | hk)
    · simp
    · have := (hfr.lt k hk).2; simp; omega
  · rintro k (rfl | hk)
    · exact hsz
    · exact (hfr.lt k hk).1

theorem Wr.new {w : World} (g : Nat) (hg : g = w.heap.size) : Wr (w.alloc (.cells #[.slice none 0 0, .bool false] 59)) g (some []) (fun k => k = g) := by
  subst hg
  exact ⟨.slice none 0 0, Blk.new w _ [.slice none 0 0, .bool false], World.ownsRow_nil _ _ _ _, rfl, by simp [Value.ownBlock], fun k hk => by subst hk; simp⟩

theorem Wr.lt {w : World} {p : Nat} {s : Option (List Int)} {F : Nat → Prop} (h : Wr w p s F) : ∀ k, F k → k < w.heap.size := by obtain ⟨_, _, _, _, _, h5⟩ := h; exact h5
theorem Rdr.lt {w : World} {p : Nat} {s : Option (List Int)} {F : Nat → Prop} (h : Rdr w p s F) : ∀ k, F k → k < w.heap.size := by obtain ⟨_, _, _, _, _, h5⟩ := h; exact h5

theorem bytes_nil (w : World) :
    Calls Try.prog 26 #[.pointer none] w fun e w' => e = .returned (.tuple #[.slice none 0 0, .int .i64 1]) ∧ w = w' := by
  go_enter Try.func26, Try.ntmps26
  go_wp2
  go_ret2
  exact ⟨rfl, rfl⟩

end Go.Proofs.Ytabfmnlpipbegaa
