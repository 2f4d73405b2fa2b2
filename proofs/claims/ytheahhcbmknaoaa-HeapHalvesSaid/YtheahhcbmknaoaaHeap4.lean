/- Package heap: Push and Pop. -/
import Derived.Test.YtheahhcbmknaoaaHeap3
namespace Go.Proofs.Ytheahhcbmknaoaa
open Go.RowKit Mile

theorem hpush_nil (id key : Int) (w : World) : Calls Try.prog 10 #[.pointer none, .int .i64 id, .int .i64 key] w fun e w' => e = .returned (.bool false) ∧ w = w' := by
  go_enter Try.func10, Try.ntmps10
  go_wp2
  go_ret
  exact ⟨rfl, rfl⟩

def PushPost (p : Nat) (S : List It) (id key : Int) (F : Nat → Prop) (w : World) (e : Ending) (w' : World) : Prop :=
  e = .returned (.bool (pushS S id key).1) ∧ ∃ F', HpO w' p (pushS S id key).2 F' ∧ Aft w w' F F'

set_option maxHeartbeats 2000000 in
theorem hpush_any (p : Nat) (w : World) (S : List It) (F : Nat → Prop) (h : HpO w p S F) (hS : S.length ≤ 900000000) (id key : Int) (hid : (Lit.int .i64 id).wf = true) (hkey : (Lit.int .i64 key).wf = true) :
    Calls Try.prog 10 #[.pointer (some ⟨p, 0, none⟩), .int .i64 id, .int .i64 key] w (PushPost p S id key F w) := by
  obtain ⟨iI, hiI, zI, sI, bI⟩ := info_parts Hp.infoI
  have h0 := h
  obtain ⟨v, l, mb, f, h1, ho, hf, hp, hs, hids⟩ := h
  have hlS : l.length = S.length := hp.length_eq
  have HLS := Lib.hid hlS
  clear hlS
  have c0 := h1.blk.cell 0 rfl
  have c1 := h1.blk.cell 1 rfl
  have hlk := look_place h1.place id hid
  have hxo : okIt (id, key) := ⟨hid, hkey⟩
  have hpo := pushS_ok hs hids id key
  have hidl : Ids l := ids_perm hp.symm hids
  rcases full_key hf hids hp id with ⟨e1, e2⟩ | ⟨i, hi, e1, e2, e3⟩
  · rw [e1] at hlk
    simp only [Option.getD_none, Option.isSome_none] at hlk
    have hP : pushS S id key = (true, insS S (id, key)) := by simp [pushS, e2]
    have HP := Lib.hid hP
    clear hP e1
    have hne := keyS_none_inv e2
    clear e2
    go_enter Try.func10, Try.ntmps10
    go_wp2_with fail
    refine (grow_any p w v l mb f F h1 (by have := HLS.out; omega)).mono ?_
    rintro e w1 ⟨rfl, v', b, F', hR, hA⟩
    go_wp2_with fail
    refine (rise_any p w1 v' _ b f F' hR l.length (by have := HLS.out; simp; omega) (by simp) (id, key) hxo (good_of_new hf _ _) (fun i hi hne' => ?_) (up_of_new ho _ _)).mono ?_
    · have hil : i < l.length := by simp at hi; omega
      have hg : g (l ++ [(0, 0)]) i = g l i := by unfold g; simp [List.getD, List.getElem?_append_left hil]
      rw [hg]
      exact hne _ (hp.mem_iff.1 (g_mem hil))
    rintro e w2 ⟨rfl, l', f', hR', hpp, ho', hf', hM⟩
    go_wp2
    go_ret
    refine ⟨by rw [HP.out]; rfl, F', ⟨_, _, _, _, hR', ho', hf', ?_, hpo.1, hpo.2⟩, hA.trans (Aft.ofMod hM)⟩
    rw [HP.out]
    exact hpp.trans (new_perm hp _ _)
  · rw [e1] at hlk
    simp only [Option.getD_some, Option.isSome_some] at hlk
    obtain ⟨gb, cap, hv⟩ := h1.slice (by omega)
    subst hv
    obtain ⟨f1, f2⟩ := cell_it h1.own i hi
    have hq : (i : Int) < (l.length : Int) := by omega
    by_cases hle : (g l i).2 ≤ key
    · have hP : pushS S id key = (false, S) := by simp [pushS, e3, hle]
      have HP := Lib.hid hP
      clear hP e1 e3
      go_enter Try.func10, Try.ntmps10
      go_wp2
      go_ret
      exact ⟨by rw [HP.out]; rfl, F, by rw [HP.out]; exact h0, Aft.refl _ _⟩
    · have hP : pushS S id key = (true, insS (dropS S id) (id, key)) := by simp [pushS, e3, hle]
      have HP := Lib.hid hP
      have hgood : Mile.Good f l i (id, key) := by have := good_of_full hi hf key; rw [e2] at this; exact this
      have hup : UpInv l i (id, key) := up_of_ord hi ho (by rw [bef_iff]; exact .inl (by simp; omega))
      have hperm : (l.set i (id, key)).Perm (insS (dropS S id) (id, key)) := by have := lowered_perm hi hidl hp key; rw [e2] at this; exact this
      have hlt : key < (g l i).2 := by omega
      have hnid : ∀ j, j < l.length → j ≠ i → (g l j).1 ≠ id := fun j hj hji e => hji (ids_g hidl hj hi (by rw [e2]; exact e))
      obtain ⟨b, hb⟩ : ∃ b, mb = some b := by
        cases mb with
        | some b => exact ⟨b, rfl⟩
        | none => have := h1.place id; rw [e1] at this; cases this
      subst hb
      clear hP e1 e3 e2 hle
      go_enter Try.func10, Try.ntmps10
      go_wp2_with fail
      refine (rise_any p w _ _ b f F h1 i (by have := HLS.out; omega) hi (id, key) hxo hgood hnid hup).mono ?_
      rintro e w2 ⟨rfl, l', f', hR', hpp, ho', hf', hM⟩
      go_wp2
      go_ret
      refine ⟨by rw [HP.out]; rfl, F, ⟨_, _, _, _, hR', ho', hf', ?_, hpo.1, hpo.2⟩, Aft.ofMod hM⟩
      rw [HP.out]
      exact hpp.trans hperm

/-- The items are cut to the first n. -/
theorem HRaw.cut {w : World} {p gb m c : Nat} {l : List It} {mb : Option Nat} {f : Int → Option Int} {F : Nat → Prop} (h : HRaw w p (.slice (some ⟨gb, 0, none⟩) m c) l mb f F) (n : Nat) (hn : n ≤ l.length) :
    HRaw (w.setCell ⟨p, 0, none⟩ (.slice (some ⟨gb, 0, none⟩) n c)) p (.slice (some ⟨gb, 0, none⟩) n c) (l.take n) mb f F ∧ Mod (fun k => k = p) w (w.setCell ⟨p, 0, none⟩ (.slice (some ⟨gb, 0, none⟩) n c)) := by
  have hset : Mod (fun k => k = p) w (w.setCell ⟨p, 0, none⟩ (.slice (some ⟨gb, 0, none⟩) n c)) := Mod.setCell _ _ _ rfl
  have hm : m = l.length := own_n h.own
  subst hm
  have hr := h.row gb rfl
  refine ⟨⟨h.blk.set 0 _, ?_, h.place.keep hset (fun b hb e => (h.map b hb).2.1 e), h.self, fun k hk => h.row k hk, fun b hb => h.map b hb, fun k hk => by have := h.lt k hk; simp; omega, fun x hx => h.ok x (List.mem_of_mem_take hx)⟩, hset⟩
  have ho := Own.keep (Own.take h.own hn) hset (fun k hk e => by
    have : gb = k := Option.some.inj hk
    exact hr.2 (by omega))
  have e1 : (l.take n).length = n := by rw [List.length_take]; omega
  have e2 : (l.flatMap cellsIt).take (n * 2) = (l.take n).flatMap cellsIt := by
    clear ho hset h hr
    induction l generalizing n with
    | nil => simp
    | cons x l ih =>
      cases n with
      | zero => simp
      | succ n =>
        rw [List.take_succ_cons, List.flatMap_cons, List.flatMap_cons, show (n + 1) * 2 = 2 + n * 2 by omega]
        have h2 : (cellsIt x).length = 2 := rfl
        rw [List.take_append, h2, List.take_of_length_le (by omega), show 2 + n * 2 - 2 = n * 2 by omega, ih n (by simpa using hn)]
        · simp; simp at hn; omega
  rw [e1, ← e2]; exact ho

theorem hpop_nil (w : World) : Calls Try.prog 8 #[.pointer none] w fun e w' => e = .returned (.tuple #[.int .i64 0, .int .i64 0, .int .i64 4]) ∧ w = w' := by
  go_enter Try.func8, Try.ntmps8
  go_wp2_with (go_at_call 14; refine (len_nil _).mono ?_; rintro e w' ⟨rfl, rfl⟩)
  go_ret3
  exact ⟨rfl, rfl⟩

def PopPost (p : Nat) (S : List It) (F : Nat → Prop) (w : World) (e : Ending) (w' : World) : Prop :=
  match S with
  | [] => e = .returned (.tuple #[.int .i64 0, .int .i64 0, .int .i64 4]) ∧ HpO w' p [] F ∧ Mod F w w'
  | x :: r => e = .returned (.tuple #[.int .i64 x.1, .int .i64 x.2, .int .i64 0]) ∧ HpO w' p r F ∧ Mod F w w'

set_option maxHeartbeats 2000000 in
theorem hpop_any (p : Nat) (w : World) (S : List It) (F : Nat → Prop) (h : HpO w p S F) (hS : S.length ≤ 900000000) :
    Calls Try.prog 8 #[.pointer (some ⟨p, 0, none⟩)] w (PopPost p S F w) := by
  obtain ⟨iI, hiI, zI, sI, bI⟩ := info_parts Hp.infoI
  cases S with
  | nil =>
    have hlen := len_any p w [] F h
    go_enter Try.func8, Try.ntmps8
    go_wp2_with (go_at_call 14; refine hlen.mono ?_; rintro e w' ⟨rfl, rfl⟩)
    go_ret3
    exact ⟨rfl, h, Mod.refl _ _⟩
  | cons s r =>
    have hlen := len_any p w (s :: r) F h
    obtain ⟨v, l, mb, f, h1, ho, hf, hp, hs, hids⟩ := h
    have hlS : l.length = r.length + 1 := by rw [hp.length_eq]; rfl
    have hlb : l.length ≤ 900000000 := by rw [hp.length_eq]; exact hS
    have HLS := Lib.hid hlS
    have hg0 := head_min ho hp hs
    have hsok : okIt s := h1.ok s (hp.mem_iff.2 List.mem_cons_self)
    have hlok : ∀ i, i < l.length → okIt (g l i) := fun i hi => h1.ok _ (g_mem hi)
    have HLOK := Lib.hid hlok
    clear hlok
    have hidl : Ids l := ids_perm hp.symm hids
    obtain ⟨gb, cap, hv⟩ := h1.slice (by omega)
    subst hv
    have c0 := h1.blk.cell 0 rfl
    have c1 := h1.blk.cell 1 rfl
    obtain ⟨f1, f2⟩ := cell_it h1.own 0 (by omega)
    simp only [Nat.zero_mul, Nat.zero_add] at f1 f2
    have hlen0 : (0 : Int) < (l.length : Int) := by omega
    have hz : (((s :: r).length : Nat) : Int) = (l.length : Int) := by rw [hlS]; rfl
    rw [hz] at hlen
    have hl0 : ((l.length : Int) == 0) = false := by rw [beq_eq_false_iff_ne]; omega
    have hlN : 0 < l.length := by omega
    have c0a := fun x y => (h1.blk.alloc (.cells #[x, y] 52)).cell 0 rfl
    have f1a := fun x y => (cell_it (World.ownsRow.alloc h1.own (.cells #[x, y] 52)) 0 (by omega)).1
    have f2a := fun x y => (cell_it (World.ownsRow.alloc h1.own (.cells #[x, y] 52)) 0 (by omega)).2
    simp only [Nat.zero_mul, Nat.zero_add] at f1a f2a
    clear hz hlS
    go_enter Try.func8, Try.ntmps8
    go_wp2_with (go_at_call 14; refine hlen.mono ?_; rintro e w' ⟨rfl, rfl⟩)
    go_region
    obtain ⟨n, hn⟩ : ∃ n, l.length - 1 = n := ⟨_, rfl⟩
    rw [show (l.length : Int) - 1 = (n : Int) by omega]
    have hM1 := (Mod.refl F w).thenAlloc (.cells #[.int .i64 s.1, .int .i64 s.2] 52)
    have hM0 := (Mod.refl (fun _ => False) w).thenAlloc (.cells #[.int .i64 s.1, .int .i64 s.2] 52)
    have b1 : Blk (w.alloc (.cells #[.int .i64 s.1, .int .i64 s.2] 52)) w.heap.size 52 [.int .i64 s.1, .int .i64 s.2] := Blk.new w _ _
    have hb1 : ¬ F w.heap.size := fun e => by have := h1.lt _ e; omega
    have h2 := h1.keep hM0 (fun _ _ e => e)
    have hM1 := hM1.thenDrew
    have b1 := b1.drew
    have h2 := h2.keep (Mod.drew (fun _ => False) _) (fun _ _ e => e)
    obtain ⟨W, hW⟩ : ∃ W, World.drew (w.alloc (.cells #[.int .i64 s.1, .int .i64 s.2] 52)) = W := ⟨_, rfl⟩
    obtain ⟨x1, hx1⟩ : ∃ x1, w.heap.size = x1 := ⟨_, rfl⟩
    rw [hx1] at b1 hb1 ⊢
    rw [hW] at hM1 b1 h2 ⊢
    clear hW hx1 h1 c0 c1 f1 f2 c0a f1a f2a hM0 hlen
    have hnl : n < l.length := by omega
    obtain ⟨f3, f4⟩ := cell_it h2.own n hnl
    have c0 := h2.blk.cell 0 rfl
    have d0 := h2.blk.free 0
    have hq : (n : Int) < (l.length : Int) := by omega
    have HN := Lib.hid hn
    clear hn
    have rT := fun wx => run_takeS (P := Try.prog) wx 25 52 iI Try.underlying25 hiI (some ⟨gb, 0, none⟩) l.length cap n (by have := h2.own; rcases this.2 with ⟨e, _⟩ | ⟨_, _, _, e, _, _, h', _⟩ <;> cases e; omega)
    go_upto_region 5 with fail
    obtain ⟨le, hle⟩ : ∃ le, g l n = le := ⟨_, rfl⟩
    have hM2 := hM1.thenAlloc (.cells #[.int .i64 le.1, .int .i64 le.2] 52)
    have b2 : Blk (W.alloc (.cells #[.int .i64 le.1, .int .i64 le.2] 52)) W.heap.size 52 [.int .i64 le.1, .int .i64 le.2] := Blk.new W _ _
    have hb2 : ¬ F W.heap.size := fun e => by have := h2.lt _ e; omega
    have hx12 : x1 ≠ W.heap.size := by have := b1.lt; omega
    have b1 := b1.alloc (.cells #[.int .i64 le.1, .int .i64 le.2] 52)
    have h2 := h2.keep (Mod.alloc (fun _ => False) W (.cells #[.int .i64 le.1, .int .i64 le.2] 52)) (fun _ _ e => e)
    rw [hle]
    obtain ⟨W2, hW⟩ : ∃ W2, W.alloc (.cells #[.int .i64 le.1, .int .i64 le.2] 52) = W2 := ⟨_, rfl⟩
    obtain ⟨x2, hx2⟩ : ∃ x2, W.heap.size = x2 := ⟨_, rfl⟩
    rw [hx2] at b2 hb2 hx12 ⊢
    rw [hW] at hM2 b1 b2 h2 ⊢
    clear hW hx2 c0 d0 f3 f4 hM1
    have c0 := h2.blk.cell 0 rfl
    have d0 := h2.blk.free 0
    go_upto_region 6 with fail
    have h3 := h2.cut n (by omega)
    obtain ⟨h3, hM3⟩ := h3
    have b1 := b1.keep hM3 (fun e => hb1 (by rw [e]; exact h2.self))
    have b2 := b2.keep hM3 (fun e => hb2 (by rw [e]; exact h2.self))
    have hM3 := hM2.trans hM3 (H := F) (fun _ _ e => e) (fun _ _ e => by rw [e]; exact h2.self)
    obtain ⟨W3, hW⟩ : ∃ W3, W2.setCell ⟨p, 0, none⟩ (.slice (some ⟨gb, 0, none⟩) n cap) = W3 := ⟨_, rfl⟩
    rw [hW] at h3 b1 b2 hM3 ⊢
    clear hW c0 d0 hM2 h2
    have c1 := h3.blk.cell 1 rfl
    have e0 := b1.cell 0 rfl
    obtain ⟨b, hb⟩ : ∃ b, mb = some b := by
      cases mb with
      | some b => exact ⟨b, rfl⟩
      | none =>
        have h := (hf s.1 0).2 ⟨0, rfl, by omega, by rw [hg0]⟩
        rw [h3.place s.1] at h; cases h
    subst hb
    obtain ⟨w', hrun, hmap, hmm⟩ := IMap.drop (w := W3.drew) (IMap.keep h3.place (Mod.drew (fun _ => False) _) (fun e => e)) Try.underlying26 Try.underlying3 s.1 hsok.1 (ty := 0)
    go_region
    obtain ⟨h4, hM4⟩ := (h3.keep (Mod.drew (fun _ => False) _) (fun _ _ e => e)).placed hmm hmap
    have b1 := b1.drew.keep hM4 hb1
    have b2 := b2.drew.keep hM4 hb2
    have hM5 := hM3.thenDrew.trans hM4 (H := F) (fun _ _ e => e) (fun _ _ e => e)
    clear hrun hmap hmm h3 c1 e0 hM3 hM4
    have e0 := b1.cell 0 rfl
    have e1 := b1.cell 1 rfl
    have g0 := b2.cell 0 rfl
    have g1 := b2.cell 1 rfl
    have HG0 := Lib.hid hg0
    have HLE := Lib.hid hle
    clear hg0 hle
    have hnn := HN.out
    by_cases hn0 : n = 0
    · subst hn0
      go_wp2_with fail
      go_quiet (fail)
      go_wp2
      go_ret3
      have hfull := pop_last hf (by omega)
      rw [HN.out, HG0.out] at hfull
      have hr0 : r = [] := by have := HLS.out; exact List.eq_nil_of_length_eq_zero (by omega)
      subst hr0
      refine ⟨rfl, ⟨_, _, _, _, h4.keep (Mod.drewN (fun _ => False) _ _) (fun _ _ e => e), ?_, hfull, ?_, List.Pairwise.nil, List.Pairwise.nil⟩, hM5.trans (Mod.drewN F _ _) (fun _ _ e => e) (fun _ _ e => e)⟩
      · intro i _ h; simp at h
      · rw [List.take_zero]
    · have hn1 : 1 < l.length := by omega
      have hnp : (0 : Int) < (n : Int) := by omega
      have hgood := pop_good hf hidl hn1
      have hpi := pop_ids hidl hn1
      have hpd := pop_down ho hn1
      have hpp := pop_perm hp HG0.out hn1
      rw [HN.out, HLE.out] at hgood hpi hpd hpp
      rw [HG0.out] at hgood
      have htl : (l.take n).length = n := by rw [List.length_take]; omega
      have hleok : okIt le := by rw [← HLE.out]; exact HLOK.out n (by omega)
      go_wp2_with fail
      refine (sink_any p w' _ (l.take n) b _ F h4 0 (by omega) (by omega) le hleok hgood hpi hpd).mono ?_
      rintro e w6 ⟨rfl, l', f', hR', hperm, ho', hf', hM6⟩
      have b1 := b1.keep hM6 hb1
      clear e0 e1 g0 g1
      have e0 := b1.cell 0 rfl
      have e1 := b1.cell 1 rfl
      go_wp2_with fail
      go_quiet (fail)
      go_wp2
      go_ret3
      rw [Srt, List.pairwise_cons] at hs
      have hids' : Ids r := by unfold Ids at hids ⊢; rw [List.map_cons, List.pairwise_cons] at hids; exact hids.2
      exact ⟨rfl, ⟨_, _, _, _, hR'.keep (Mod.drewN (fun _ => False) _ _) (fun _ _ e => e), ho', hf', hperm.trans hpp, hs.2, hids'⟩, (hM5.trans hM6 (H := F) (fun _ _ e => e) (fun _ _ e => e)).trans (Mod.drewN F _ _) (fun _ _ e => e) (fun _ _ e => e)⟩
end Go.Proofs.Ytheahhcbmknaoaa
