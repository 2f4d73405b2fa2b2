/- With a number cut, and its shortcuts put, all others are as far from each other as before: plain. -/
import Derived.Test.YtepnlijdnabllaaRTells15
import Derived.Test.YtepnlijdnabllaaRAll
namespace Go.Proofs.Ytepnlijdnabllaa
open Go.RowKit Mile
set_option maxRecDepth 100000
theorem cut_okK {n : Nat} {L : List Ar} (h : NetOk n L) (v : Int) : NetOk n (cutN L v) := ⟨h.sort.filter _, fun b hb => h.may b (List.mem_filter.1 hb).1⟩
theorem findN_cutK {L : List Ar} {v b e : Int} (hb : b ≠ v) (he : e ≠ v) : findN (cutN L v) b e = findN L b e := by
  unfold findN cutN
  rw [List.find?_filter]
  congr 1
  funext a
  by_cases h : a.f = b ∧ a.t = e
  · rw [decide_eq_true h]
    simp [h.1, h.2, hb, he]
  · rw [decide_eq_false h]; simp
theorem findN_cutK_none {L : List Ar} {v b e : Int} (h : b = v ∨ e = v) : findN (cutN L v) b e = none := by
  cases hc : findN (cutN L v) b e with
  | none => rfl
  | some a =>
    obtain ⟨h1, h2, h3⟩ := findN_inv hc
    unfold cutN at h1
    have h4 := (List.mem_filter.1 h1).2
    simp at h4
    omega
/-- Without a number, or with all its arcs cut: as far. -/
theorem cut_farK {n : Nat} {L : List Ar} {fr wo : Nat} {d : List Int} (hne : fr ≠ wo) (h : Fix (netW n L (fr : Int) (wo : Int)) d) : Fix (netW n (cutN L (wo : Int)) (fr : Int) (-1)) d := by
  have hwo : ¬ 0 ≤ dAt d wo := fun h0 => by
    rcases h.why wo h0 with ⟨⟨h1, _⟩, _⟩ | ⟨b, ⟨a, _, h2, _⟩, _⟩
    · omega
    · exact h2 rfl
  have hwt : ∀ e b : Nat, (b : Int) ≠ wo → (e : Int) ≠ wo → (netW n (cutN L (wo : Int)) (fr : Int) (-1)).wt e b = (netW n L (fr : Int) (wo : Int)).wt e b := fun e b hb he => by
    show (match findN (cutN L (wo : Int)) (b : Int) (e : Int) with | some a => a.w | none => 0) = (match findN L (b : Int) (e : Int) with | some a => a.w | none => 0)
    rw [findN_cutK hb he]
  refine ⟨h.len, h.low, fun e he hm => h.st e ⟨he.1, by omega⟩ hm, fun e h0 => ?_, fun e b hr hb => ?_⟩
  · rcases h.why e h0 with ⟨⟨h1, h2⟩, h3⟩ | ⟨b, ⟨a, h1, h2, h3⟩, h4, h5⟩
    · exact .inl ⟨⟨h1, by omega⟩, h3⟩
    · have hb : (b : Int) ≠ wo := fun e2 => hwo (by have : b = wo := by omega
                                                    rw [← this]; exact h4)
      exact .inr ⟨b, ⟨a, by rw [findN_cutK hb h2]; exact h1, by omega, h3⟩, h4, by rw [hwt e b hb h2]; exact h5⟩
  · obtain ⟨a, h1, h2, h3⟩ := hr
    by_cases hx : (b : Int) = wo ∨ (e : Int) = wo
    · rw [findN_cutK_none hx] at h1; cases h1
    · have hbw : (b : Int) ≠ wo := fun x => hx (.inl x)
      have hew : (e : Int) ≠ wo := fun x => hx (.inr x)
      rw [findN_cutK hbw hew] at h1
      rw [hwt e b hbw hew]
      exact h.shut e b ⟨a, h1, hew, h3⟩ hb
theorem found_all {n : Nat} {L : List Ar} {fr wo : Int} {d : List Int} (hf : Fix (netW n L fr wo) d) (tv : Nat) (mo : Int) : foundB d (tv : Int) mo n = decide (0 ≤ dAt d tv ∧ dAt d tv ≤ mo) := by
  unfold foundB
  rw [Int.toNat_natCast]
  apply decide_eq_decide.2
  exact ⟨fun h => ⟨h.2.1, h.2.2.1⟩, fun h => ⟨by omega, h.1, h.2, by have : rankN d tv < n := rankN_lt hf h.1; omega⟩⟩
theorem put_low1 (L : List Ar) (a y : Ar) (hy : y ∈ L ∨ y = a) : ∃ z ∈ putN L a, z.f = y.f ∧ z.t = y.t ∧ z.w ≤ y.w := by
  unfold putN
  cases hp : putB L a with
  | true =>
    rw [if_pos rfl]
    rcases hy with hy | rfl
    · by_cases he : y.f = a.f ∧ y.t = a.t
      · have h1 : y ∈ eqN L a := List.mem_filter.2 ⟨hy, decide_eq_true he⟩
        unfold putB at hp
        have h2 := of_decide_eq_true (List.all_eq_true.1 hp y h1)
        exact ⟨a, mem_newN.2 (.inl rfl), he.1.symm, he.2.symm, by omega⟩
      · refine ⟨y, mem_newN.2 (.inr ⟨hy, ?_⟩), rfl, rfl, Int.le_refl _⟩
        unfold keyLt
        omega
    · exact ⟨y, mem_newN.2 (.inl rfl), rfl, rfl, Int.le_refl _⟩
  | false =>
    rw [if_neg (by simp)]
    rcases hy with hy | rfl
    · exact ⟨y, hy, rfl, rfl, Int.le_refl _⟩
    · unfold putB at hp
      rw [List.all_eq_false] at hp
      obtain ⟨b, hb, hn⟩ := hp
      have h1 := List.mem_filter.1 hb
      have h2 := of_decide_eq_true h1.2
      have h3 : ¬ y.w < b.w := fun e => hn (decide_eq_true e)
      exact ⟨b, h1.1, h2.1, h2.2, by omega⟩
theorem put_low (A : List Ar) : ∀ (L : List Ar) (y : Ar), y ∈ L ∨ y ∈ A → ∃ z ∈ A.foldl putN L, z.f = y.f ∧ z.t = y.t ∧ z.w ≤ y.w := by
  induction A with
  | nil => exact fun L y hy => ⟨y, hy.elim id (fun h => by cases h), rfl, rfl, Int.le_refl _⟩
  | cons a A ih =>
    intro L y hy
    rw [List.foldl_cons]
    have key : ∀ x, (x ∈ L ∨ x = a) → ∃ z ∈ A.foldl putN (putN L a), z.f = x.f ∧ z.t = x.t ∧ z.w ≤ x.w := fun x hx => by
      obtain ⟨z, h1, h2, h3, h4⟩ := put_low1 L a x hx
      obtain ⟨z2, g1, g2, g3, g4⟩ := ih (putN L a) z (.inl h1)
      exact ⟨z2, g1, by omega, by omega, by omega⟩
    rcases hy with hy | hy
    · exact key y (.inl hy)
    · rcases List.mem_cons.1 hy with rfl | hy
      · exact key y (.inr rfl)
      · exact ih (putN L a) y (.inr hy)
theorem mem_scR {D : Nat → Int → List Int} {L : List Ar} {v : Int} {x : Ar} : x ∈ scR D L v ↔ ∃ a ∈ inL L v, ∃ b ∈ outL L v, ovB D v a b = false ∧ x = ⟨a.f, b.t, a.w + b.w, v⟩ := by
  unfold scR
  rw [List.mem_flatMap]
  constructor
  · rintro ⟨a, ha, hx⟩
    obtain ⟨b, hb, rfl⟩ := List.mem_map.1 hx
    obtain ⟨h1, h2⟩ := List.mem_filter.1 hb
    exact ⟨a, ha, b, h1, by simpa using h2, rfl⟩
  · rintro ⟨a, ha, b, hb, ho, rfl⟩
    exact ⟨a, ha, List.mem_map.2 ⟨b, List.mem_filter.2 ⟨hb, by rw [ho]; rfl⟩, rfl⟩⟩
/-- From one to another, and on. -/
theorem fix_tri {n : Nat} {L1 L2 : List Ar} {x y : Nat} {dx dy : List Int} (hx : Fix (netW n L2 (x : Int) (-1)) dx) (hy : Fix (netW n L1 (y : Int) (-1)) dy) (hok : NetOk n L2) (hw : ∀ a ∈ L2, a.w ≤ 65535) (hl : ∀ a ∈ L1, ∃ z ∈ L2, z.f = a.f ∧ z.t = a.t ∧ z.w ≤ a.w) (h0 : 0 ≤ dAt dx y) : ∀ (k : Nat) (z : Nat), dAt dy z ≤ k → 0 ≤ dAt dy z → 0 ≤ dAt dx z ∧ dAt dx z ≤ dAt dx y + dAt dy z := by
  intro k
  induction k using Nat.strongRecOn with
  | ind k ih =>
    intro z hk hz
    rcases hy.why z hz with ⟨⟨h1, _⟩, h2⟩ | ⟨b, h1, h2, h3⟩
    · have : z = y := by omega
      subst this; omega
    · have hw1 := ((netW n L1 (y : Int) (-1)).one z b h1).1
      obtain ⟨g1, g2⟩ := ih (k - 1) (by omega) b (by omega) h2
      obtain ⟨a, ha, hat, haf, _, hwt⟩ := netW_inv h1
      obtain ⟨c, hc, hcf, hct, hcw⟩ := hl a ha
      have hr := netW_rl (fr := (x : Int)) (wo := -1) hok hw hc (e := z) (b := b) (by omega) (by omega) (by omega)
      have hwt2 := netW_wt (n := n) (fr := (x : Int)) (wo := -1) hok.sort hc (e := z) (b := b) (by omega) (by omega)
      obtain ⟨g3, g4⟩ := hx.shut z b hr g1
      rw [hwt2] at g4
      omega
section
variable {n : Nat} {L : List Ar} {D : Nat → Int → List Int} {v x : Nat} {d d2 : List Int}
theorem keeps_ge (hok : NetOk n L) (hw : ∀ a ∈ L, a.w ≤ 65535) (hd : Fix (netW n L (x : Int) (-1)) d) (hd2 : Fix (netW n ((scR D L (v : Int)).foldl putN (cutN L (v : Int))) (x : Int) (-1)) d2) : ∀ (k : Nat) (e : Nat), dAt d2 e ≤ k → 0 ≤ dAt d2 e → 0 ≤ dAt d e ∧ dAt d e ≤ dAt d2 e := by
  intro k
  induction k using Nat.strongRecOn with
  | ind k ih =>
    intro e hk h0
    rcases hd2.why e h0 with ⟨⟨h1, h1b⟩, h2⟩ | ⟨b, h1, h2, h3⟩
    · have := hd.st e ⟨h1, h1b⟩ (by have := dAt_in h0; rw [hd2.len] at this; exact this)
      omega
    · have hw1 := ((netW n ((scR D L (v : Int)).foldl putN (cutN L (v : Int))) (x : Int) (-1)).one e b h1).1
      obtain ⟨g1, g2⟩ := ih (k - 1) (by omega) b (by omega) h2
      obtain ⟨a, ha, hat, haf, _, hwt⟩ := netW_inv h1
      rcases mem_putAll15 _ _ a ha with h4 | h4
      · have haL := (List.mem_filter.1 h4).1
        have hs := hd.shut e b (netW_rl hok hw haL hat haf (by omega)) g1
        rw [netW_wt hok.sort haL hat haf] at hs
        omega
      · obtain ⟨p, hp, q, hq, _, rfl⟩ := mem_scR.1 h4
        have hpL := (List.mem_filter.1 hp).1
        have hqL := (List.mem_filter.1 hq).1
        have hpt := of_decide_eq_true (List.mem_filter.1 hp).2
        have hqf := of_decide_eq_true (List.mem_filter.1 hq).2
        simp only at hat haf hwt
        have s1 := hd.shut v b (netW_rl hok hw hpL (e := v) (b := b) hpt haf (by omega)) g1
        rw [netW_wt hok.sort hpL (e := v) (b := b) hpt haf] at s1
        have s2 := hd.shut e v (netW_rl hok hw hqL (e := e) (b := v) hat hqf (by omega)) s1.1
        rw [netW_wt hok.sort hqL (e := e) (b := v) hat hqf] at s2
        omega
theorem keeps_le (hok : NetOk n L) (hD : DOk n L D) (hv : v < n) (hxv : x ≠ v) (hok2 : NetOk n ((scR D L (v : Int)).foldl putN (cutN L (v : Int)))) (hw2 : ∀ a ∈ (scR D L (v : Int)).foldl putN (cutN L (v : Int)), a.w ≤ 65535)
    (hd : Fix (netW n L (x : Int) (-1)) d) (hd2 : Fix (netW n ((scR D L (v : Int)).foldl putN (cutN L (v : Int))) (x : Int) (-1)) d2) : ∀ (k : Nat) (e : Nat), e ≠ v → dAt d e ≤ k → 0 ≤ dAt d e → 0 ≤ dAt d2 e ∧ dAt d2 e ≤ dAt d e := by
  have hlow := put_low (scR D L (v : Int)) (cutN L (v : Int))
  have step : ∀ (b e : Nat) (y : Ar), (y ∈ cutN L (v : Int) ∨ y ∈ scR D L (v : Int)) → y.f = (b : Int) → y.t = (e : Int) → 0 ≤ dAt d2 b → 0 ≤ dAt d2 e ∧ dAt d2 e ≤ dAt d2 b + y.w := fun b e y hy hf ht h0 => by
    obtain ⟨c, hc, hcf, hct, hcw⟩ := hlow y hy
    have hs := hd2.shut e b (netW_rl hok2 hw2 hc (by omega) (by omega) (by omega)) h0
    rw [netW_wt hok2.sort hc (by omega) (by omega)] at hs
    omega
  intro k
  induction k using Nat.strongRecOn with
  | ind k ih =>
    intro e hev hk h0
    rcases hd.why e h0 with ⟨⟨h1, h1b⟩, h2⟩ | ⟨b, h1, h2, h3⟩
    · have := hd2.st e ⟨h1, h1b⟩ (by have := dAt_in h0; rw [hd.len] at this; exact this)
      omega
    · have hw1 := ((netW n L (x : Int) (-1)).one e b h1).1
      obtain ⟨q, hq, hqt, hqf, _, hwt⟩ := netW_inv h1
      by_cases hbv : b = v
      · subst hbv
        rcases hd.why b h2 with ⟨⟨h4, _⟩, _⟩ | ⟨c, h4, h5, h6⟩
        · omega
        · have hw3 := ((netW n L (x : Int) (-1)).one b c h4).1
          obtain ⟨p, hp, hpt, hpf, _, hwt2⟩ := netW_inv h4
          have hpm := hok.may p hp
          unfold mayA at hpm
          have hcb : c ≠ b := by omega
          obtain ⟨g1, g2⟩ := ih (k - 1) (by omega) c hcb (by omega) h5
          have hpi : p ∈ inL L (b : Int) := List.mem_filter.2 ⟨hp, decide_eq_true hpt⟩
          have hqo : q ∈ outL L (b : Int) := List.mem_filter.2 ⟨hq, decide_eq_true hqf⟩
          cases ho : ovB D (b : Int) p q with
          | false =>
            have hs := step c e ⟨p.f, q.t, p.w + q.w, (b : Int)⟩ (.inr (mem_scR.2 ⟨p, hpi, q, hqo, ho, rfl⟩)) hpf hqt g1
            simp only at hs
            omega
          | true =>
            unfold ovB at ho
            rw [hpf, Int.toNat_natCast, hqt] at ho
            have h7 := foundB_iff.1 ho
            have hcf := cut_farK hcb (hD c (b : Int))
            have := fix_tri hd2 hcf hok2 hw2 (fun a ha => hlow a (.inl ha)) g1 (dAt (D c (b : Int)) e).toNat e (by omega) h7.1
            omega
      · have hqm := hok.may q hq
        have hqc : q ∈ cutN L (v : Int) := List.mem_filter.2 ⟨hq, by rw [decide_eq_true_iff]; omega⟩
        obtain ⟨g1, g2⟩ := ih (k - 1) (by omega) b hbv (by omega) h2
        have hs := step b e q (.inl hqc) hqf hqt g1
        omega
/-- All are as far from each other as before. -/
theorem keeps (hok : NetOk n L) (hw : ∀ a ∈ L, a.w ≤ 65535) (hD : DOk n L D) (hv : v < n) (hxv : x ≠ v) (hok2 : NetOk n ((scR D L (v : Int)).foldl putN (cutN L (v : Int)))) (hw2 : ∀ a ∈ (scR D L (v : Int)).foldl putN (cutN L (v : Int)), a.w ≤ 65535)
    (hd : Fix (netW n L (x : Int) (-1)) d) (hd2 : Fix (netW n ((scR D L (v : Int)).foldl putN (cutN L (v : Int))) (x : Int) (-1)) d2) (e : Nat) (he : e ≠ v) : dAt d e = dAt d2 e := by
  have l1 := hd.low e
  have l2 := hd2.low e
  by_cases h0 : 0 ≤ dAt d e
  · have h1 := keeps_le hok hD hv hxv hok2 hw2 hd hd2 (dAt d e).toNat e he (by omega) h0
    have h2 := keeps_ge hok hw hd hd2 (dAt d2 e).toNat e (by omega) h1.1
    omega
  · by_cases h1 : 0 ≤ dAt d2 e
    · have h2 := keeps_ge hok hw hd hd2 (dAt d2 e).toNat e (by omega) h1
      omega
    · omega
end
end Go.Proofs.Ytepnlijdnabllaa
