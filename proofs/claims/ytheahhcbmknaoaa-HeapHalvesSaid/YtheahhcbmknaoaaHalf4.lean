/- The law HeapHalves, walked. -/
import Derived.Test.YtheahhcbmknaoaaHalf
namespace Go.Proofs.Ytheahhcbmknaoaa
open Go.RowKit Mile

theorem HH.info33 : (Try.prog.info? 33).map (fun i => (i.zero, i.size, i.bytes)) = some (some (.agg #[.int .i64 0, .int .i64 0]), 2, 16) := by kernel_rfl

/-- Two heaps, apart from each other, in blocks of the call's own. -/
structure Tw (w W : World) (p q : Nat) (S T : List It) (F G : Nat → Prop) : Prop where
  h : HpO W p S F
  k : HpO W q T G
  dis : ∀ k, F k → ¬ G k
  fB : ∀ k, F k → w.heap.size ≤ k
  gB : ∀ k, G k → w.heap.size ≤ k
  mod : Mod (fun _ => False) w W

theorem Tw.drew {w W : World} {p q : Nat} {S T : List It} {F G : Nat → Prop} (h : Tw w W p q S T F G) : Tw w W.drew p q S T F G :=
  ⟨h.h.keep (Mod.drew (fun _ => False) _) (fun _ _ e => e), h.k.keep (Mod.drew (fun _ => False) _) (fun _ _ e => e), h.dis, h.fB, h.gB, h.mod.thenDrew⟩
theorem Tw.later {w W W' : World} {p q : Nat} {S T : List It} {F G : Nat → Prop} (h : Tw w W p q S T F G) (hm : Mod (fun _ => False) W W') : Tw w W' p q S T F G :=
  ⟨h.h.keep hm (fun _ _ e => e), h.k.keep hm (fun _ _ e => e), h.dis, h.fB, h.gB, h.mod.trans hm (fun _ _ e => e) (fun _ _ e => e)⟩
theorem Tw.fst {w W W1 : World} {p q : Nat} {S T S' : List It} {F G F' : Nat → Prop} (h : Tw w W p q S T F G) (hp : HpO W1 p S' F') (ha : Aft W W1 F F') : Tw w W1 p q S' T F' G := by
  have hG := h.k.lt
  have hsz := h.mod.size
  exact ⟨hp, h.k.keep ha.1 (fun k hg hf => h.dis k hf hg), fun k hk hg => (ha.2 k hk).elim (fun e => h.dis k e hg) (fun e => by have := hG k hg; omega),
    fun k hk => (ha.2 k hk).elim (h.fB k) (fun e => by omega), h.gB, h.mod.trans ha.1 (fun _ _ e => e) (fun i hi e => by have := h.fB i e; omega)⟩
theorem Tw.snd {w W W1 : World} {p q : Nat} {S T T' : List It} {F G G' : Nat → Prop} (h : Tw w W p q S T F G) (hp : HpO W1 q T' G') (ha : Aft W W1 G G') : Tw w W1 p q S T' F G' := by
  have hF := h.h.lt
  have hsz := h.mod.size
  exact ⟨h.h.keep ha.1 (fun k hf hg => h.dis k hf hg), hp, fun k hk hg => (ha.2 k hg).elim (fun e => h.dis k hk e) (fun e => by have := hF k hk; omega), h.fB,
    fun k hk => (ha.2 k hk).elim (h.gB k) (fun e => by omega), h.mod.trans ha.1 (fun _ _ e => e) (fun i hi e => by have := h.gB i e; omega)⟩
theorem Tw.new {w W W0 : World} (p q : Nat) (hM : Mod (fun _ => False) w W) (hp : p = W.heap.size) (hW : W0 = W.alloc (.cells #[.slice none 0 0, .map none] 28)) (hq : q = W0.heap.size) :
    Tw w (W0.alloc (.cells #[.slice none 0 0, .map none] 28)) p q [] [] (fun k => k = p) (fun k => k = q) := by
  subst hW
  have hs := hM.size
  have h1 : HpO (W.alloc (.cells #[.slice none 0 0, .map none] 28)) p [] (fun k => k = p) := HpO.new W p hp
  have hq' : q = W.heap.size + 1 := by rw [hq]; simp
  exact ⟨h1.keep (Mod.alloc (fun _ => False) _ _) (fun _ _ e => e), HpO.new _ q hq, fun k e e' => by omega, fun k e => by omega, fun k e => by omega, (hM.thenAlloc _).thenAlloc _⟩

theorem Tw.keep {w W W1 : World} {p q : Nat} {S T : List It} {F G H : Nat → Prop} (h : Tw w W p q S T F G) (hm : Mod H W W1) (hF : ∀ k, F k → ¬ H k) (hG : ∀ k, G k → ¬ H k) (hl : ∀ k, H k → w.heap.size ≤ k) : Tw w W1 p q S T F G :=
  ⟨h.h.keep hm hF, h.k.keep hm hG, h.dis, h.fB, h.gB, h.mod.trans hm (fun _ _ e => e) (fun i hi e => by have := hl i e; omega)⟩
/-- Two heaps, and a row of what was popped, apart from both. -/
structure Out (w W : World) (p q : Nat) (S T : List It) (m : Nat) (out : Value) (R : List It) (F G : Nat → Prop) : Prop where
  tw : Tw w W p q S T F G
  own : W.ownsRow 0 33 2 out m (R.flatMap cellsIt)
  ap : ∀ b, out.ownBlock = some b → w.heap.size ≤ b ∧ ¬ F b ∧ ¬ G b
theorem Out.fst {w W W1 : World} {p q : Nat} {S T S' : List It} {m : Nat} {out : Value} {R : List It} {F G F' : Nat → Prop} (h : Out w W p q S T m out R F G) (hp : HpO W1 p S' F') (ha : Aft W W1 F F') : Out w W1 p q S' T m out R F' G :=
  ⟨h.tw.fst hp ha, Own.keep h.own ha.1 (fun k hk e => (h.ap k hk).2.1 e), fun b hb => ⟨(h.ap b hb).1, fun e => (ha.2 b e).elim (h.ap b hb).2.1 (fun e' => by have := Own.lt h.own hb; omega), (h.ap b hb).2.2⟩⟩
theorem Out.later {w W W1 : World} {p q : Nat} {S T : List It} {m : Nat} {out : Value} {R : List It} {F G : Nat → Prop} (h : Out w W p q S T m out R F G) (hm : Mod (fun _ => False) W W1) : Out w W1 p q S T m out R F G :=
  ⟨h.tw.later hm, Own.keep h.own hm (fun _ _ e => e), h.ap⟩
theorem Out.push {w W W0 W1 : World} {p q : Nat} {S T : List It} {m m' : Nat} {out out' : Value} {R R' : List It} {F G : Nat → Prop} (h : Out w W p q S T m out R F G) (h0 : Mod (fun _ => False) W W0) (hap : Appended W0 W1 33 2 out out' m' (R'.flatMap cellsIt)) : Out w W1 p q S T m' out' R' F G := by
  have h1 := h.tw.later h0
  have hF := h1.h.lt
  have hG := h1.k.lt
  have hs := h1.mod.size
  refine ⟨h1.keep hap.mod (fun k hk e => (h.ap k e).2.1 hk) (fun k hk e => (h.ap k e).2.2 hk) (fun k e => (h.ap k e).1), hap.own, fun b hb => ?_⟩
  rcases hap.row b hb with e | e
  · exact h.ap b e
  · exact ⟨by omega, fun f => by have := hF b f; omega, fun f => by have := hG b f; omega⟩
def Hlf2 (w W : World) (p q : Nat) (S : List It) (k : Nat) (out : Value) : Prop := ∃ F G, Out w W p q (S.drop k) S k out (S.take k) F G
def Hlf3 (w W : World) (p q : Nat) (S : List It) (k k2 : Nat) (out : Value) : Prop := ∃ F G, Out w W p q (S.drop k) S k2 out (S.take k2) F G
def Hlf4 (w W : World) (p q : Nat) (S : List It) (k : Nat) : Prop := ∃ F G, Tw w W p q (S.drop k) (S.drop k) F G
theorem take_snoc (S : List It) (k : Nat) (h : k < S.length) : (S.take k).flatMap cellsIt ++ [.int .i64 (g S k).1, .int .i64 (g S k).2] = (S.take (k + 1)).flatMap cellsIt := by
  rw [List.take_add_one, List.getElem?_eq_getElem h, Option.toList_some, List.flatMap_append, g_eq S k h]; simp [cellsIt]

def Hlf1 (w W : World) (p q : Nat) (L : List It) (t j : Nat) : Prop := ∃ F G, Tw w W p q (pushAll [] (L.take j)) (pushAll [] ((rotL L t).take j)) F G

set_option maxHeartbeats 4000000 in
set_option maxRecDepth 100000 in
theorem halves_walk (w : World) (a : Option Addr) (n c : Nat) (L : List It) (hn : L.length = n) (hr : Rd w 2 (.slice a n c) n (L.flatMap cellsIt)) (hok : ∀ x ∈ L, okIt x) (turn half : Int) :
    Calls Try.prog 6 #[.slice a n c, .int .i64 turn, .int .i64 half] w fun e w' => e = .returned (.bool true) ∧ Mod (fun _ => False) w w' := by
  obtain ⟨i33, hi33, hz33, hs33, hb33⟩ := info_parts HH.info33
  have HN := Lib.hid hn
  clear hn
  by_cases h60 : 60 < n
  · go_enter Try.func6, Try.ntmps6
    go_wp2_with fail
    refine (awake_any _).mono ?_
    rintro e w9 ⟨rfl, hM9⟩
    go_wp2
    go_ret
    exact ⟨rfl, hM9⟩
  have q1 : n ≤ 60 := by omega
  clear h60
  go_enter Try.func6, Try.ntmps6
  go_wp2_with fail
  have hT0 := Tw.new (w := w) (W := w) (W0 := w.alloc (.cells #[.slice none 0 0, .map none] 28)) w.heap.size (w.heap.size + 1) (Mod.refl _ _) rfl rfl (by simp)
  obtain ⟨p, hp⟩ : ∃ p, w.heap.size = p := ⟨_, rfl⟩
  obtain ⟨q, hq⟩ : ∃ q, p + 1 = q := ⟨_, rfl⟩
  rw [hp, hq] at hT0
  rw [hp, hq]
  have HP := Lib.hid hp
  have HQ := Lib.hid hq
  clear hp hq
  obtain ⟨t, ht⟩ : ∃ t : Nat, (turn % (n : Int)).toNat = t := ⟨_, rfl⟩
  have HT : Hid (0 < n → turn % (n : Int) = (t : Int) ∧ t < n) := Lib.hid fun h => by
    have h1 := Int.emod_nonneg turn (show (n : Int) ≠ 0 by omega)
    have h2 := Int.emod_lt_of_pos turn (show (0 : Int) < (n : Int) by omega)
    omega
  clear ht
  go_loopw [9, 10] (fun i _ wr => ∃ j : Nat, j ≤ n ∧ i = .int .i64 j ∧ Hlf1 w wr p q L t j) (fun i _ _ => n - (intOf i).toNat)
  case atStart => exact ⟨0, by omega, rfl, _, _, hT0⟩
  case round =>
    clear hT0
    obtain ⟨j, hj, rfl, F, G, hT⟩ := hrel
    by_cases hlt : j < n
    · have hjl : j < L.length := by rw [HN.out]; exact hlt
      obtain ⟨ht1, ht2⟩ := HT.out (by omega)
      have HT1 := Lib.hid ht1
      clear ht1
      have hkk := Nat.mod_lt (j + t) (show 0 < n by omega)
      have hrem : ((j : Int) + (t : Int)).tmod (n : Int) = (((j + t) % n : Nat) : Int) := by
        rw [Int.tmod_eq_emod_of_nonneg (by omega)]; push_cast; rfl
      obtain ⟨kk, hkd⟩ : ∃ kk, (j + t) % n = kk := ⟨_, rfl⟩
      rw [hkd] at hkk hrem
      have hkl : kk < L.length := by rw [HN.out]; exact hkk
      have Pa : Hid (pushAll [] (L.take (j + 1)) = (pushS (pushAll [] (L.take j)) (g L j).1 (g L j).2).2) := Lib.hid (pushAll_take [] L j hjl)
      have Pb : Hid (pushAll [] ((rotL L t).take (j + 1)) = (pushS (pushAll [] ((rotL L t).take j)) (g L kk).1 (g L kk).2).2) := Lib.hid (by
        have := rotL_at L t j (by rw [HN.out]; exact ht2) hjl
        rw [HN.out, hkd] at this
        rw [pushAll_take [] _ j (by rw [rotL_len]; exact hjl), this])
      have hl1 := pushAll_len (L.take j) []
      have hl2 := pushAll_len ((rotL L t).take j) []
      rw [List.length_take] at hl1 hl2
      rw [List.length_nil] at hl1 hl2
      obtain ⟨S, hS⟩ : ∃ S, pushAll [] (L.take j) = S := ⟨_, rfl⟩
      obtain ⟨T, hTT⟩ : ∃ T, pushAll [] ((rotL L t).take j) = T := ⟨_, rfl⟩
      rw [hS] at hT Pa hl1
      rw [hTT] at hT Pb hl2
      have hS9 : S.length ≤ 900000000 := by omega
      have hT9 : T.length ≤ 900000000 := by omega
      clear hS hTT hl1 hl2 hkd
      obtain ⟨_, b, o, hpl, e1, e2⟩ := rd_it hr j hjl
      have hix := fun wx => run_indexS (P := Try.prog) wx 22 33 i33 2 Try.underlying22 hi33 hs33 a n c j hlt (hr.some_ (by omega))
      rw [hpl] at hix
      have hxo := hok _ (g_mem hjl)
      obtain ⟨x, hx⟩ : ∃ x, g L j = x := ⟨_, rfl⟩
      rw [hx] at e1 e2 hxo Pa
      clear hx hpl
      obtain ⟨x1, x2⟩ := x
      simp only at e1 e2 Pa
      have HC : Hid (∀ W, Mod (fun _ => False) w W → W.cell? ⟨b, o, none⟩ = some (.int .i64 x1) ∧ W.cell? ⟨b, o + 1, none⟩ = some (.int .i64 x2)) := Lib.hid fun W hm => ⟨hm.cell e1 (fun e => e), hm.cell e2 (fun e => e)⟩
      clear e1 e2
      obtain ⟨_, b', o', hpl, e1, e2⟩ := rd_it hr kk hkl
      have hix' := fun wx => run_indexS (P := Try.prog) wx 22 33 i33 2 Try.underlying22 hi33 hs33 a n c kk hkk (hr.some_ (by omega))
      rw [hpl] at hix'
      have hyo := hok _ (g_mem hkl)
      obtain ⟨y, hy⟩ : ∃ y, g L kk = y := ⟨_, rfl⟩
      rw [hy] at e1 e2 hyo Pb
      clear hy hpl
      obtain ⟨y1, y2⟩ := y
      simp only at e1 e2 Pb
      have HD : Hid (∀ W, Mod (fun _ => False) w W → W.cell? ⟨b', o', none⟩ = some (.int .i64 y1) ∧ W.cell? ⟨b', o' + 1, none⟩ = some (.int .i64 y2)) := Lib.hid fun W hm => ⟨hm.cell e1 (fun e => e), hm.cell e2 (fun e => e)⟩
      clear e1 e2
      obtain ⟨e1, e2⟩ := HC.out _ hT.mod
      have hTd := hT.drew
      go_wp2_with fail
      go_region_held3 (fun w' => w'.cell? ⟨b, o, none⟩ = some (.int .i64 x1) ∧ w'.cell? ⟨b, o + 1, none⟩ = some (.int .i64 x2)) (first | exact e3 | go_keep) (
        (go_at_call 10; refine (hpush_any p _ S F hTd.h hS9 x1 x2 hxo.1 hxo.2).mono ?_; rintro e w1 ⟨rfl, F1, hO1, hA1⟩; have e3 := HC.out w1 (hTd.mod.trans hA1.1 (fun _ _ e => e) (fun i hi e => by have := hTd.fB i e; omega)); have hT1 := hTd.fst hO1 hA1))
      clear e1 e2
      obtain ⟨e1, e2⟩ := HD.out _ hT1.mod
      have hTd1 := hT1.drew
      have HTA := Lib.hid hT
      have HTB := Lib.hid hTd
      have HTC := Lib.hid hA1
      have HTD := Lib.hid hO1
      clear hT hTd hA1 hO1
      go_wp2_with fail
      refine (round_any _ _ _ (by omega) (by omega)).mono ?_
      rintro e w' ⟨rfl, rfl⟩
      rw [HT1.out]
      go_wp2_with fail
      go_region_held3 (fun w' => w'.cell? ⟨b', o', none⟩ = some (.int .i64 y1) ∧ w'.cell? ⟨b', o' + 1, none⟩ = some (.int .i64 y2)) (first | exact e3 | go_keep) (
        (go_at_call 10; refine (hpush_any q _ T G hTd1.k hT9 y1 y2 hyo.1 hyo.2).mono ?_; rintro e w2 ⟨rfl, G1, hO2, hA2⟩; have e3 := HD.out w2 (hTd1.mod.trans hA2.1 (fun _ _ e => e) (fun i hi e => by have := hTd1.gB i e; omega)); have hT2 := hTd1.snd hO2 hA2))
      have HT2 := Lib.hid hT2
      have HO2 := Lib.hid hO2
      have HA2 := Lib.hid hA2
      clear hT2 hO2 hA2 hT1 hTd1
      go_wp2_with fail
      go_roundw
      case rel => exact ⟨j + 1, hlt, by go_num, F1, G1, by rw [Pa.out, Pb.out]; exact HT2.out⟩
      case measure => simp [intOf]; omega
    · obtain rfl : j = n := by omega
      have hfull : L.take j = L := List.take_of_length_le (by rw [HN.out]; omega)
      have hfull2 : pushAll [] ((rotL L t).take j) = pushAll [] L := by
        rw [List.take_of_length_le (by rw [rotL_len, HN.out]; omega)]
        exact pushAll_perm (rotL_perm L t)
      rw [hfull, hfull2] at hT
      have hl1 := pushAll_len L []
      rw [HN.out, List.length_nil, Nat.zero_add] at hl1
      obtain ⟨hs0, hi0⟩ := pushAll_ok L srt_nil ids_nil
      obtain ⟨S, hS⟩ : ∃ S, pushAll [] L = S := ⟨_, rfl⟩
      rw [hS] at hT hl1 hs0 hi0
      have HOK := Lib.hid hT.h.ok.2.2
      have HS0 := Lib.hid hs0
      have HI0 := Lib.hid hi0
      clear hfull hfull2 hS hs0 hi0 HT
      obtain ⟨m, hm⟩ : ∃ m, S.length = m := ⟨_, rfl⟩
      rw [hm] at hl1
      have HM0 := Lib.hid hm
      clear hm
      obtain ⟨k2, hk2⟩ : ∃ k2 : Nat, (half % (((m : Int)) + 1)).toNat = k2 := ⟨_, rfl⟩
      have HK : Hid (half % ((m : Int) + 1) = (k2 : Int) ∧ k2 ≤ m) := Lib.hid (by
        have h1 := Int.emod_nonneg half (show ((m : Int) + 1) ≠ 0 by omega)
        have h2 := Int.emod_lt_of_pos half (show (0 : Int) < (m : Int) + 1 by omega)
        omega)
      clear hk2
      have z1 : decide ((j : Int) < (m : Int)) = false := by simp; omega
      have z2 : decide ((m : Int) < 0) = false := by simp
      have z3 : decide (j < m) = false := by simp; omega
      go_wp2_with fail
      refine (len_any p _ S F hT.h).mono ?_
      rintro e w1 ⟨rfl, rfl⟩
      rw [HM0.out]
      go_wp2_with fail
      refine (len_any q _ S G hT.k).mono ?_
      rintro e w1 ⟨rfl, rfl⟩
      rw [HM0.out]
      go_wp2_with fail
      have hO0 : Out w wr p q (S.drop 0) S 0 (.slice none 0 0) (S.take 0) F G := ⟨hT, World.ownsRow_nil _ _ _ _, fun b hb => by simp [Value.ownBlock] at hb⟩
      clear hT
      go_loopw [12, 13, 14, 15, 16] (fun out i _ _ _ wr => ∃ (k : Nat) (ov : Value), k ≤ k2 ∧ out = ov ∧ i = .int .i64 k ∧ Hlf2 w wr p q S k ov) (fun _ i _ _ _ _ => k2 - (intOf i).toNat)
      case atStart => exact ⟨0, _, by omega, rfl, rfl, _, _, hO0⟩
      case round =>
        clear hO0
        obtain ⟨k, ov, hk, rfl, rfl, F, G, hO⟩ := hrel
        obtain ⟨a2, c2, rfl⟩ := own_form hO.own
        obtain ⟨hk1, hk2⟩ := HK.out
        have HK1 := Lib.hid hk1
        clear hk1
        by_cases hlt : k < k2
        · have hkm : k < S.length := by rw [HM0.out]; omega
          have hkn : decide ((j : Int) < ((k : Int) + 1)) = false := by simp; omega
          have hsn := take_snoc S k hkm
          have hd := drop_at S k hkm
          have hs9 : (g S k :: S.drop (k + 1)).length ≤ 900000000 := by
            rw [List.length_cons, List.length_drop, HM0.out]; omega
          obtain ⟨x, hx⟩ : ∃ x, g S k = x := ⟨_, rfl⟩
          rw [hx] at hsn hd hs9
          rw [hd] at hO
          obtain ⟨x1, x2⟩ := x
          have HSN := Lib.hid hsn
          clear hx hd hsn
          have h1c : ∀ u ∈ [Value.int .i64 x1, .int .i64 x2], u.oneCell' = true := by simp [Value.oneCell']
          have hap1 : k + 1 ≤ maxLen := by unfold maxLen; omega
          have hap2 : (k + 1) * 16 ≤ 140737488355328 := by omega
          go_wp2_with fail
          refine (round_any _ _ _ (by omega) (by omega)).mono ?_
          rintro e w' ⟨rfl, rfl⟩
          rw [HK1.out]
          go_wp2_with fail
          refine (hpop_any p _ _ F hO.tw.h hs9).mono ?_
          rintro e w1 ⟨rfl, hp1, hm1⟩
          have hO1 := hO.fst hp1 (Aft.ofMod hm1)
          have HO := Lib.hid hO
          clear hO
          go_wp2_with (at_builtin; refine wpList_append_any rfl (.tmp 104) (.tmp 108) 22 rfl 33 i33 (.agg #[.int .i64 0, .int .i64 0]) 2 16 Try.underlying22 hi33 hz33 hs33 hb33 rfl (by decide) _ k ((S.take k).flatMap cellsIt) rfl (World.ownsRow.alloc hO1.own _) _ 1 [.int .i64 x1, .int .i64 x2] rfl (Rd.one2 w1 33 _ _ _ rfl) h1c hap1 hap2 ?_; intro v' w' hap; obtain ⟨a3, c3, rfl⟩ := hap.form; rw [HSN.out] at hap; have hO2 := hO1.push (Mod.alloc (fun _ => False) w1 _) hap; clear hap hO1 hp1 hm1)
          go_roundw
          case rel => exact ⟨k + 1, _, hlt, rfl, by go_num, F, G, hO2⟩
          case measure => simp [intOf]; omega
        · obtain rfl : k = k2 := by omega
          go_wp2_with fail
          refine (round_any _ _ _ (by omega) (by omega)).mono ?_
          rintro e w' ⟨rfl, rfl⟩
          rw [HK1.out]
          go_wp2_with fail
          clear HK1 HK
          go_loopw [17] (fun i wr => ∃ d : Nat, d ≤ k ∧ i = .int .i64 ((d : Int) - 1) ∧ Hlf3 w wr p q S d k (.slice a2 k c2)) (fun i _ => (intOf i + 1).toNat)
          case atStart => exact ⟨k, Nat.le_refl _, rfl, F, G, hO⟩
          case round =>
            clear hO
            obtain ⟨d, hd, rfl, F, G, hO⟩ := hrel
            cases d with
            | zero =>
              have hT := hO.tw
              clear hO
              rw [List.drop_zero] at hT
              go_wp2_with fail
              refine (len_any q _ S G hT.k).mono ?_
              rintro e w1 ⟨rfl, rfl⟩
              rw [HM0.out]
              go_wp2_with fail
              go_loopw [18, 19, 20, 21, 22, 23, 24] (fun i _ _ _ _ _ _ wr => ∃ r : Nat, r ≤ m ∧ i = .int .i64 r ∧ Hlf4 w wr p q S (m - r)) (fun i _ _ _ _ _ _ _ => (intOf i).toNat)
              case atStart => exact ⟨m, Nat.le_refl _, rfl, F, G, by rw [Nat.sub_self]; exact hT⟩
              case round =>
                clear hT
                obtain ⟨r, hr', rfl, F, G, hT⟩ := hrel
                cases r with
                | zero =>
                  have hnil : S.drop (m - 0) = [] := List.drop_eq_nil_of_le (by rw [HM0.out]; omega)
                  rw [hnil] at hT
                  clear hnil
                  have hMM := Lib.hid hT.mod
                  go_wp2_with fail
                  refine (len_any p _ [] F hT.h).mono ?_
                  rintro e w1 ⟨rfl, rfl⟩
                  go_wp2_with fail
                  refine (len_any q _ [] G hT.k).mono ?_
                  rintro e w1 ⟨rfl, rfl⟩
                  clear hT
                  go_wp2_with fail
                  refine (awake_any _).mono ?_
                  rintro e w9 ⟨rfl, hM9⟩
                  have HM9 := Lib.hid hM9
                  clear hM9
                  go_wp2_with fail
                  go_ret
                  exact ⟨rfl, hMM.out.trans HM9.out (fun _ _ e => e) (fun _ _ e => e)⟩
                | succ r =>
                  have hdr := drop_at S (m - (r + 1)) (by rw [HM0.out]; omega)
                  rw [show m - (r + 1) + 1 = m - r by omega] at hdr
                  have hs9 : (g S (m - (r + 1)) :: S.drop (m - r)).length ≤ 900000000 := by
                    rw [List.length_cons, List.length_drop, HM0.out]; omega
                  obtain ⟨x, hx⟩ : ∃ x, g S (m - (r + 1)) = x := ⟨_, rfl⟩
                  rw [hdr] at hT
                  rw [hx] at hT hs9
                  obtain ⟨x1, x2⟩ := x
                  clear hx hdr
                  go_wp2_with fail
                  refine (hpop_any p _ _ F hT.h hs9).mono ?_
                  rintro e w1 ⟨rfl, hp1, hm1⟩
                  have hT1 := hT.fst hp1 (Aft.ofMod hm1)
                  have A1 := Lib.hid hT
                  have A2 := Lib.hid hp1
                  have A3 := Lib.hid hm1
                  clear hT hp1 hm1
                  go_wp2_with fail
                  refine (hpop_any q _ _ G hT1.k hs9).mono ?_
                  rintro e w2 ⟨rfl, hp2, hm2⟩
                  have hT2 := Lib.hid (hT1.snd hp2 (Aft.ofMod hm2))
                  clear hT1 hp2 hm2
                  go_wp2_with fail
                  go_roundw
                  case rel => exact ⟨r, by omega, by go_num, F, G, hT2.out⟩
                  case measure => simp [intOf] <;> omega
            | succ d =>
              have hdm : d < S.length := by rw [HM0.out]; omega
              have hdr := drop_at S d hdm
              have hpf := push_front (x := g S d) (T := S.drop (d + 1)) (by rw [← hdr]; exact srt_dropN HS0.out d) (by rw [← hdr]; exact ids_dropN HI0.out d)
              have hs9 : (S.drop (d + 1)).length ≤ 900000000 := by rw [List.length_drop, HM0.out]; omega
              obtain ⟨_, b, o, hpl, e1, e2⟩ := rd_it (Rd.ofOwn hO.own) d (by rw [List.length_take, HM0.out]; omega)
              have hgt : g (S.take k) d = g S d := g_take (by omega)
              rw [hgt] at e1 e2
              have hix : ∀ wx, (Instr.indexAt 22 (.slice a2 k c2) (.int .i64 (d : Int))).run Try.prog wx = .ok (.pointer (some ⟨b, o, none⟩)) wx := fun wx => by
                rw [← hpl]; exact run_indexS (P := Try.prog) wx 22 33 i33 2 Try.underlying22 hi33 hs33 a2 k c2 d (by omega) ((Rd.ofOwn hO.own).some_ (by omega))
              have hap := hO.ap b (by
                have hsome := (Rd.ofOwn hO.own).some_ (by omega)
                rcases hO.own.2 with ⟨h, _⟩ | ⟨g', cap, cur, h, _⟩
                · cases h; simp at hsome
                · cases h
                  have := congrArg Addr.block hpl
                  simp only [elemA, Value.ownBlock, Addr.add] at this ⊢; split at this <;> simpa using this)
              have HG := Lib.hid hdr
              have hxo := HOK.out _ (g_mem hdm)
              obtain ⟨x, hx⟩ : ∃ x, g S d = x := ⟨_, rfl⟩
              rw [hx] at e1 e2 hpf hdr hxo
              obtain ⟨x1, x2⟩ := x
              simp only at e1 e2 hpf hxo
              have HDR := Lib.hid hdr
              clear hx hdr hgt hpl HG
              have HC : Hid (∀ W, Mod F wr W → W.cell? ⟨b, o, none⟩ = some (.int .i64 x1) ∧ W.cell? ⟨b, o + 1, none⟩ = some (.int .i64 x2)) := Lib.hid fun W hm => ⟨hm.cell e1 hap.2.1, hm.cell e2 hap.2.1⟩
              have hOd := hO.later (Mod.drew (fun _ => False) wr)
              have HO := Lib.hid hO
              clear hO hap
              have hj1 : decide ((0 : Int) ≤ ((d + 1 : Nat) : Int) - 1) = true := by simp
              have hj2 : ((d + 1 : Nat) : Int) - 1 = (d : Int) := by omega
              rw [hj2]
              clear hj1 hj2
              go_wp2_with fail
              go_region_held3 (fun w' => w'.cell? ⟨b, o, none⟩ = some (.int .i64 x1) ∧ w'.cell? ⟨b, o + 1, none⟩ = some (.int .i64 x2)) (first | exact e3 | go_keep) (
                (go_at_call 10; refine (hpush_any p _ _ F hOd.tw.h hs9 x1 x2 hxo.1 hxo.2).mono ?_; rintro e w1 ⟨rfl, F1, hO1, hA1⟩; rw [hpf] at hO1 ⊢; have e3 := HC.out w1 ((Mod.drew F wr).trans hA1.1 (fun _ _ e => e) (fun _ _ e => e)); have hT1 := hOd.fst hO1 hA1))
              clear e1 e2
              have HT1 := Lib.hid hT1
              have A1 := Lib.hid hOd
              have A2 := Lib.hid hO1
              have A3 := Lib.hid hA1
              clear hT1 hOd hO1 hA1 e3
              go_wp2_with fail
              go_roundw
              case rel => exact ⟨d, by omega, by go_num, F1, G, by rw [HDR.out]; exact HT1.out⟩
              case measure => simp [intOf] <;> omega
end Go.Proofs.Ytheahhcbmknaoaa
namespace Go.Proofs.Ytheahhcbmknaoaa
open Go.RowKit Mile
theorem halves_all (w : World) (a : Option Addr) (n c : Nat) (L : List It) (ok : (encSlice (encPair (encInt .i64) (encInt .i64))).ok w (.slice a n c, L)) (turn : Int) (_ : (Lit.int .i64 turn).wf = true) (half : Int) (_ : (Lit.int .i64 half).wf = true) :
    Calls Try.prog 6 #[.slice a n c, .int .i64 turn, .int .i64 half] w fun e w' => e = .returned (.bool true) ∧ Below w.heap.size w w' := by
  obtain ⟨hn, hr, hok⟩ := ok_pairs ok
  exact (halves_walk w a n c L hn hr hok turn half).mono fun e w' h => ⟨h.1, h.2.below (Nat.le_refl _) (fun _ e => e.elim)⟩
end Go.Proofs.Ytheahhcbmknaoaa
