/- The reference's Sender: its memory. -/
import Derived.Test.YtfdmjnhhgcidbaaRTm4
import Derived.Test.YtfdmjnhhgcidbaaUdP
namespace Go.Proofs.Ytfdmjnhhgcidbaa
open Go.RowKit Mile Go.Maps
set_option maxRecDepth 100000
/-- The blocks that hold the reference's Sender, and all that it reads. -/
def rsB (q tq : Nat) (a : Option Addr) (n : Nat) (ta : Option Addr) (tn : Nat) (us : List Ud) : Nat → Prop := fun k => k = q ∨ k = tq ∨ ((Value.slice a 0 0).ownBlock = some k ∧ n ≠ 0) ∨ ((Value.slice ta 0 0).ownBlock = some k ∧ tn ≠ 0) ∨ ∃ u ∈ us, u.v.ownBlock = some k
structure RS (w : World) (q tq W F : Nat) (a : Option Addr) (n c : Nat) (over : Bool) (ta : Option Addr) (tn tc B M R : Nat) (L : List Wt) (us : List Ud) : Prop where
  w1 : 1 ≤ W
  w16 : W ≤ 16
  len : us.length = n
  nW : n ≤ W
  blk : Blk w q 134 [.pointer (some ⟨tq, 0, none⟩), .int .i64 (W : Int), .int .i64 ((F + n : Nat) : Int), .slice a n c, .bool over]
  tm : RT w tq ta tn tc B M R L
  rd : Rd w 2 (.slice a n c) n (us.flatMap c2U)
  seqs : ∀ i (h : i < us.length), us[i].seq = F + i
  bodies : ∀ u ∈ us, BodyU w u.body u.v
  qt : q ≠ tq
  row : ∀ k, (Value.slice a n c).ownBlock = some k → (k = q ∨ k = tq) → n = 0
  trow : ∀ k, (Value.slice ta tn tc).ownBlock = some k → (k = q ∨ k = tq) → tn = 0
  brow : ∀ u ∈ us, ∀ k, u.v.ownBlock = some k → k ≠ q ∧ k ≠ tq
  blt : ∀ u ∈ us, ∀ k, u.v.ownBlock = some k → k < w.heap.size
theorem c3W_nil {L : List Wt} (h : L.flatMap c3W = []) : L.length = 0 := by cases L with | nil => rfl | cons x l => simp [c3W] at h
theorem c2U_nil {L : List Ud} (h : L.flatMap c2U = []) : L.length = 0 := by cases L with | nil => rfl | cons x l => simp [c2U] at h
section
variable {w : World} {q tq W F : Nat} {a : Option Addr} {n c : Nat} {over : Bool} {ta : Option Addr} {tn tc B M R : Nat} {L : List Wt} {us : List Ud}
theorem RS.lt (h : RS w q tq W F a n c over ta tn tc B M R L us) : ∀ k, rsB q tq a n ta tn us k → k < w.heap.size := fun k hk => by
  rcases hk with rfl | rfl | ⟨hk, hn⟩ | ⟨hk, hn⟩ | ⟨u, hu, hk⟩
  · exact h.blk.lt
  · exact h.tm.blk.lt
  · refine Decidable.by_contra fun hc => hn ?_
    have h1 := c2U_nil (h.rd.lt (by rw [← hk]; exact own_slice a n c 0 0) (by omega))
    rw [← h.len]; exact h1
  · refine Decidable.by_contra fun hc => hn ?_
    have h1 := c3W_nil (h.tm.rd.lt (by rw [← hk]; exact own_slice ta tn tc 0 0) (by omega))
    rw [← h.tm.len]; exact h1
  · exact h.blt u hu k hk
theorem BodyU.apart {w w' : World} {b : List Int} {v : Value} {G : Nat → Prop} (h : BodyU w b v) (hm : Mod G w w') (hG : ∀ k, v.ownBlock = some k → ¬ G k) : BodyU w' b v := by
  obtain ⟨a, n, c, rfl, hn, hr⟩ := h
  exact ⟨a, n, c, rfl, hn, hr.keep hm hG⟩
theorem RS.keep {w' : World} {G : Nat → Prop} (h : RS w q tq W F a n c over ta tn tc B M R L us) (hm : Mod G w w') (hG : ∀ k, rsB q tq a n ta tn us k → ¬ G k) : RS w' q tq W F a n c over ta tn tc B M R L us :=
  ⟨h.w1, h.w16, h.len, h.nW, h.blk.keep hm (hG q (.inl rfl)), h.tm.keep hm (hG tq (.inr (.inl rfl))) (fun k hk e => Decidable.by_contra fun hn => hG k (.inr (.inr (.inr (.inl ⟨by rw [← hk]; exact own_slice ta 0 0 tn tc, hn⟩)))) e),
    h.rd.keepA hm (fun k hk e => ru_nil (by rw [h.len]; exact Decidable.by_contra fun hn => hG k (.inr (.inr (.inl ⟨by rw [← hk]; exact own_slice a 0 0 n c, hn⟩))) e)), h.seqs, fun u hu => (h.bodies u hu).apart hm (fun k hk => hG k (.inr (.inr (.inr (.inr ⟨u, hu, hk⟩))))), h.qt, h.row, h.trow, h.brow, fun u hu k hk => Nat.lt_of_lt_of_le (h.blt u hu k hk) hm.size⟩
theorem RS.later {w' : World} (h : RS w q tq W F a n c over ta tn tc B M R L us) (hm : Mod (fun _ => False) w w') : RS w' q tq W F a n c over ta tn tc B M R L us := h.keep hm (fun _ _ e => e)
theorem Ev.rs (h : RS w q tq W F a n c over ta tn tc B M R L us) : Ev (fun w' => RS w' q tq W F a n c over ta tn tc B M R L us) w := fun _ m => h.later m
/-- The timer alone turned. -/
theorem RS.tick {w' : World} (h : RS w q tq W F a n c over ta tn tc B M R L us) {ta' : Option Addr} {tn' tc' : Nat} {L' : List Wt} (ht : RT w' tq ta' tn' tc' B M R L') (hlow : ∀ k, (Value.slice ta' tn' tc').ownBlock = some k → w.heap.size ≤ k) (hm : Mod (fun k => k = tq) w w') : RS w' q tq W F a n c over ta' tn' tc' B M R L' us :=
  have hq := h.blk.lt
  have ht0 := h.tm.blk.lt
  ⟨h.w1, h.w16, h.len, h.nW, h.blk.keep hm h.qt, ht, h.rd.keepA hm (fun k hk e => ru_nil (by rw [h.len]; exact h.row k hk (.inr e))), h.seqs, fun u hu => (h.bodies u hu).apart hm (fun k hk => (h.brow u hu k hk).2), h.qt, h.row, fun k hk e => by have := hlow k hk; omega, h.brow, fun u hu k hk => Nat.lt_of_lt_of_le (h.blt u hu k hk) hm.size⟩
end
/-- What a call that turns it leaves. -/
def RsQ (q tq : Nat) (a : Option Addr) (n : Nat) (ta : Option Addr) (tn : Nat) (us : List Ud) (W F n' : Nat) (over : Bool) (B M R : Nat) (L' : List Wt) (bs : List (List Int)) (w w' : World) : Prop :=
  ∃ a' c' ta' tn' tc' us', us'.map (·.body) = bs ∧ RS w' q tq W F a' n' c' over ta' tn' tc' B M R L' us' ∧ (∀ k, rsB q tq a' n' ta' tn' us' k → rsB q tq a n ta tn us k ∨ w.heap.size ≤ k) ∧ Mod (fun k => k = q ∨ k = tq) w w'
theorem rsnew_no (w : World) (v : Int) (tv : Addr) (h : ¬ (1 ≤ v ∧ v ≤ 16)) : Calls Try.prog 53 #[.int .i64 v, .pointer (some tv)] w fun e w' => e = .returned (.pointer none) ∧ w = w' := by
  have H1 : Hid ((decide (1 ≤ v) && decide (v ≤ 16)) = false) := Lib.hid (by by_cases h1 : 1 ≤ v <;> simp [h1]; omega)
  clear h
  go_enter Try.func53, Try.ntmps53
  go_wp2_with fail
  refine (rwithin_is _ _ _ _ _ H1.out).mono ?_
  rintro e w' ⟨rfl, rfl⟩
  go_wp2_with fail
  go_ret
  exact ⟨rfl, rfl⟩
theorem rsnew_any (w : World) (W tq B M R : Nat) (h1 : 1 ≤ W) (h2 : W ≤ 16) (h : RT w tq none 0 0 B M R []) : Calls Try.prog 53 #[.int .i64 (W : Int), .pointer (some ⟨tq, 0, none⟩)] w fun e w' => ∃ q, e = .returned (.pointer (some ⟨q, 0, none⟩)) ∧ RS w' q tq W 0 none 0 0 false none 0 0 B M R [] [] ∧ w.heap.size ≤ q ∧ Mod (fun _ => False) w w' := by
  have H1 : Hid ((decide (1 ≤ (W : Int)) && decide ((W : Int) ≤ 16)) = true) := Lib.hid (by simp; omega)
  have HT := Lib.hid h
  have hlt := h.blk.lt
  clear h
  go_enter Try.func53, Try.ntmps53
  go_wp2_with fail
  refine (rwithin_is _ _ _ _ _ H1.out).mono ?_
  rintro e w' ⟨rfl, rfl⟩
  go_wp2_with fail
  go_ret
  exact ⟨w.heap.size, rfl, ⟨h1, h2, rfl, Nat.zero_le _, Blk.new w 134 [.pointer (some ⟨tq, 0, none⟩), .int .i64 (W : Int), .int .i64 0, .slice none 0 0, .bool false], HT.out.keep (Mod.alloc (fun _ => False) w _) (fun e => e) (fun _ _ e => e.elim), Rd.nil _ _, fun i hi => by simp at hi, fun u hu => by simp at hu, by omega, fun k hk => (by cases hk), fun k hk => (by cases hk), fun u hu => by simp at hu, fun u hu => by simp at hu⟩, Nat.le_refl _, Mod.alloc _ _ _⟩
section
variable {w : World} {q tq W F : Nat} {a : Option Addr} {n c : Nat} {over : Bool} {ta : Option Addr} {tn tc B M R : Nat} {L : List Wt} {us : List Ud}
theorem rsroom_any (h : RS w q tq W F a n c over ta tn tc B M R L us) : Calls Try.prog 28 #[.pointer (some ⟨q, 0, none⟩)] w fun e w' => e = .returned (.int .i64 (if over then 0 else ((W - n : Nat) : Int))) ∧ ∃ k, w' = World.drewN w k := by
  have c1 := h.blk.cell 1 rfl
  have c3 := h.blk.cell 3 rfl
  have c4 := h.blk.cell 4 rfl
  have hn := h.nW
  have hw := h.w16
  have hca : ((W - n : Nat) : Int) = (W : Int) - (n : Int) := by omega
  have HCA := Lib.hid hca
  clear h hca
  go_enter Try.func28, Try.ntmps28
  cases over with
  | true =>
    go_wp2_with fail
    go_ret
    exact ⟨rfl, 0, rfl⟩
  | false =>
    go_wp2_with fail
    go_quiet (fail)
    go_wp2_with fail
    go_ret
    exact ⟨by rw [HCA.out]; rfl, _, rfl⟩
theorem rsagain_over (h : RS w q tq W F a n c true ta tn tc B M R L us) (now : Int) : Calls Try.prog 67 #[.pointer (some ⟨q, 0, none⟩), .int .i64 now] w fun e w' => e = .returned (.tuple #[.slice none 0 0, .int .i64 6]) ∧ w = w' := by
  have c4 := h.blk.cell 4 rfl
  clear h
  go_enter Try.func67, Try.ntmps67
  go_wp2_with fail
  go_ret2
  exact ⟨rfl, rfl⟩
theorem rssend_over (h : RS w q tq W F a n c true ta tn tc B M R L us) (now : Int) (v : Value) : Calls Try.prog 79 #[.pointer (some ⟨q, 0, none⟩), .int .i64 now, v] w fun e w' => e = .returned (.tuple #[.int .i64 0, .int .i64 6]) ∧ w = w' := by
  have c4 := h.blk.cell 4 rfl
  clear h
  go_enter Try.func79, Try.ntmps79
  go_wp2_with fail
  go_ret2
  exact ⟨rfl, rfl⟩
theorem rssend_full (h : RS w q tq W F a n c false ta tn tc B M R L us) (hn : n = W) (now : Int) (v : Value) : Calls Try.prog 79 #[.pointer (some ⟨q, 0, none⟩), .int .i64 now, v] w fun e w' => e = .returned (.tuple #[.int .i64 0, .int .i64 5]) ∧ Mod (fun _ => False) w w' := by
  have c1 := h.blk.cell 1 rfl
  have c3 := h.blk.cell 3 rfl
  have c4 := h.blk.cell 4 rfl
  have y0 : decide ((W : Int) ≤ (n : Int)) = true := by simp; omega
  have y1 : decide (W ≤ n) = true := by simp; omega
  clear h
  go_enter Try.func79, Try.ntmps79
  go_wp2_with fail
  go_quiet (fail)
  go_wp2_with fail
  go_ret2
  exact ⟨rfl, Mod.drewN _ _ _⟩
set_option maxHeartbeats 4000000 in
theorem rsagain_any (h : RS w q tq W F a n c false ta tn tc B M R L us) (hL : L.length ≤ 1000000) (hnR : ∀ e ∈ L, e.n ≤ R) (now : Int) (hnow : 0 ≤ now ∧ now ≤ 1048576) (A O : List Int) (L' : List Wt) (la : Nat) (hA : againE R (dueE L now) = A) (hO : overE R (dueE L now) = O) (hL' : L.filterMap (dueW B M R now) = L') (hla : A.length = la) :
    Calls Try.prog 67 #[.pointer (some ⟨q, 0, none⟩), .int .i64 now] w fun e w' =>
      (if O = [] then (∃ a1 c1, e = .returned (.tuple #[.slice a1 la c1, .int .i64 0]) ∧ Rd w' 1 (.slice a1 la c1) la (A.map (Value.int .i64))) else e = .returned (.tuple #[.slice none 0 0, .int .i64 6])) ∧ RsQ q tq a n ta tn us W F n (decide (O ≠ [])) B M R L' (us.map (·.body)) w w' := by
  have HT := Lib.hid h
  have HNR := Lib.hid hnR
  have c0 := h.blk.cell 0 rfl
  have c4 := h.blk.cell 4 rfl
  clear h hnR
  go_enter Try.func67, Try.ntmps67
  go_wp2_with fail
  refine (rtdue_any w tq ta tn tc B M R L HT.out.tm (by have := HT.out.tm.len; omega) HNR.out now (by omega)).mono ?_
  rintro e w1 ⟨a1, d1, a2, d2, rfl, ho1, ho2, a', n', c', ht', hlow, hm⟩
  have hrs := HT.out.tick ht' hlow hm
  have hsub : ∀ k, rsB q tq a n a' n' us k → rsB q tq a n ta tn us k ∨ w.heap.size ≤ k := fun k hk => by
    rcases hk with e | e | e | ⟨e, _⟩ | e
    · exact .inl (.inl e)
    · exact .inl (.inr (.inl e))
    · exact .inl (.inr (.inr (.inl e)))
    · exact .inr (hlow k (by rw [← e]; exact own_slice a' n' c' 0 0))
    · exact .inl (.inr (.inr (.inr (.inr e))))
  have HRS := Lib.hid hrs
  have HSB := Lib.hid hsub
  have HM := Lib.hid hm
  have HO1 := Lib.hid ho1
  rw [hA, hla] at HO1 ⊢
  rw [hO]
  rw [hL'] at HRS
  clear hrs hsub hm ho1 ho2 ht' hlow c0 c4 hA hO hL' hla
  have hblk := HRS.out.blk
  have f4 := hblk.free 4
  have c4w := hblk.cell 4 rfl
  have lw := hblk.lt
  have HBK := Lib.hid hblk
  clear hblk
  obtain ⟨lo, hlo⟩ : ∃ x, O.length = x := ⟨_, rfl⟩
  rw [hlo]
  have HLO := Lib.hid hlo
  clear hlo
  by_cases hz : O = []
  · have hl0 : lo = 0 := by rw [← HLO.out, hz]; rfl
    have z0 : decide (0 < (lo : Int)) = false := by simp; omega
    have z1 : decide (0 < lo) = false := by simp; omega
    have HZ := Lib.hid hz
    clear hz hl0
    go_wp2_with fail
    go_ret2
    refine ⟨⟨a1, d1, rfl, Rd.ofOwn HO1.out⟩, a, c, a', n', c', us, rfl, by have h := HRS.out; first | exact h | (rw [show decide (O ≠ []) = false by simp [HZ.out]]; exact h), HSB.out, HM.out.mono (fun _ _ e => .inr e)⟩
  · have hl0 : lo ≠ 0 := by rw [← HLO.out]; simpa using hz
    have z0 : decide (0 < (lo : Int)) = true := by simp; omega
    have z1 : decide (0 < lo) = true := by simp; omega
    have HZ := Lib.hid hz
    clear hz hl0
    go_wp2_with fail
    go_ret2
    have hset : Mod (fun k => k = q) w1 (w1.setCell ⟨q, 4, none⟩ (.bool true)) := Mod.setCell _ _ _ rfl
    have h1 := HRS.out
    refine ⟨rfl, a, c, a', n', c', us, rfl, ?_, HSB.out, HM.out.trans hset (fun _ _ e => .inr e) (fun _ _ e => .inl e)⟩
    (try rw [show decide (O ≠ []) = true by simp [HZ.out]])
    exact ⟨h1.w1, h1.w16, h1.len, h1.nW, HBK.out.set 4 _, h1.tm.keep hset (fun e => h1.qt e.symm) (fun k hk e => h1.trow k hk (.inl e)), h1.rd.keepA hset (fun k hk e => ru_nil (by rw [h1.len]; exact h1.row k hk (.inl e))), h1.seqs, fun u hu => (h1.bodies u hu).apart hset (fun k hk e => (h1.brow u hu k hk).1 e), h1.qt, h1.row, h1.trow, h1.brow, fun u hu k hk => Nat.lt_of_lt_of_le (h1.blt u hu k hk) hset.size⟩
end
end Go.Proofs.Ytfdmjnhhgcidbaa
