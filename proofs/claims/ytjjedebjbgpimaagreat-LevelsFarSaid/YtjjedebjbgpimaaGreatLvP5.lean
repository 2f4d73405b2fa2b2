/- Levels as plain lists: all are as far from each other as in the net, by a row that goes up, and then down. -/
import Derived.Test.YtjjedebjbgpimaaGreatLvP4
namespace Go.Proofs.YtjjedebjbgpimaaGreat
open Go.RowKit Mile
set_option maxRecDepth 100000
theorem findN_cut16 {L : List Ar} {v b e : Int} (hb : b ≠ v) (he : e ≠ v) : findN (cutN L v) b e = findN L b e := by
  unfold findN cutN
  rw [List.find?_filter]
  congr 1
  funext a
  by_cases h : a.f = b ∧ a.t = e
  · rw [decide_eq_true h]
    simp [h.1, h.2, hb, he]
  · rw [decide_eq_false h]; simp
theorem findN_cut16_none {L : List Ar} {v b e : Int} (h : b = v ∨ e = v) : findN (cutN L v) b e = none := by
  cases hc : findN (cutN L v) b e with
  | none => rfl
  | some a =>
    obtain ⟨h1, h2, h3⟩ := findN_inv hc
    unfold cutN at h1
    have h4 := (List.mem_filter.1 h1).2
    simp at h4
    omega
/-- Without a number, or with all its arcs cut: as far. -/
theorem cut_far16 {n : Nat} {L : List Ar} {fr wo : Nat} {d : List Int} (hne : fr ≠ wo) (h : Fix (netW n L (fr : Int) (wo : Int)) d) : Fix (netW n (cutN L (wo : Int)) (fr : Int) (-1)) d := by
  have hwo : ¬ 0 ≤ dAt d wo := fun h0 => by
    rcases h.why wo h0 with ⟨⟨h1, _⟩, _⟩ | ⟨b, ⟨a, _, h2, _⟩, _⟩
    · omega
    · exact h2 rfl
  have hwt : ∀ e b : Nat, (b : Int) ≠ wo → (e : Int) ≠ wo → (netW n (cutN L (wo : Int)) (fr : Int) (-1)).wt e b = (netW n L (fr : Int) (wo : Int)).wt e b := fun e b hb he => by
    show (match findN (cutN L (wo : Int)) (b : Int) (e : Int) with | some a => a.w | none => 0) = (match findN L (b : Int) (e : Int) with | some a => a.w | none => 0)
    rw [findN_cut16 hb he]
  refine ⟨h.len, h.low, fun e he hm => h.st e ⟨he.1, by omega⟩ hm, fun e h0 => ?_, fun e b hr hb => ?_⟩
  · rcases h.why e h0 with ⟨⟨h1, h2⟩, h3⟩ | ⟨b, ⟨a, h1, h2, h3⟩, h4, h5⟩
    · exact .inl ⟨⟨h1, by omega⟩, h3⟩
    · have hb : (b : Int) ≠ wo := fun e2 => hwo (by have : b = wo := by omega
                                                    rw [← this]; exact h4)
      exact .inr ⟨b, ⟨a, by rw [findN_cut16 hb h2]; exact h1, by omega, h3⟩, h4, by rw [hwt e b hb h2]; exact h5⟩
  · obtain ⟨a, h1, h2, h3⟩ := hr
    by_cases hx : (b : Int) = wo ∨ (e : Int) = wo
    · rw [findN_cut16_none hx] at h1; cases h1
    · have hbw : (b : Int) ≠ wo := fun x => hx (.inl x)
      have hew : (e : Int) ≠ wo := fun x => hx (.inr x)
      rw [findN_cut16 hbw hew] at h1
      rw [hwt e b hbw hew]
      exact h.shut e b ⟨a, h1, hew, h3⟩ hb
theorem okW {n : Nat} {L : List Ar} (hok : NetOk n L) : ∀ a ∈ L, a.w ≤ 1099511627776 := fun a ha => (hok.may a ha).2.2.2.2.2.2.1
/-- From one to another, and on. -/
theorem fix_tri16 {n : Nat} {L1 L2 : List Ar} {x y : Nat} {dx dy : List Int} (hx : Fix (netW n L2 (x : Int) (-1)) dx) (hy : Fix (netW n L1 (y : Int) (-1)) dy) (hok : NetOk n L2) (hl : ∀ a ∈ L1, ∃ z ∈ L2, z.f = a.f ∧ z.t = a.t ∧ z.w ≤ a.w) (h0 : 0 ≤ dAt dx y) : ∀ (k : Nat) (z : Nat), dAt dy z ≤ k → 0 ≤ dAt dy z → 0 ≤ dAt dx z ∧ dAt dx z ≤ dAt dx y + dAt dy z := by
  have hw := okW hok
  intro k
  induction k using Nat.strongRecOn with
  | ind k ih =>
    intro z hk hz
    rcases hy.why z hz with ⟨⟨h1, _⟩, h2⟩ | ⟨b, h1, h2, h3⟩
    · have : z = y := by omega
      subst this; omega
    · have hw1 := ((netW n L1 (y : Int) (-1)).one z b h1).1
      obtain ⟨g1, g2⟩ := ih (k - 1) (by omega) b (by omega) h2
      obtain ⟨a, ha, hat, haf, _, hwt⟩ := netW_inv h1
      obtain ⟨c, hc, hcf, hct, hcw⟩ := hl a ha
      have hr := netW_rl (fr := (x : Int)) (wo := -1) hok hw hc (e := z) (b := b) (by omega) (by omega) (by omega)
      have hwt2 := netW_wt (n := n) (fr := (x : Int)) (wo := -1) hok.sort hc (e := z) (b := b) (by omega) (by omega)
      obtain ⟨g3, g4⟩ := hx.shut z b hr g1
      rw [hwt2] at g4
      omega
section
variable {n : Nat} {L : List Ar} {D : Nat → Int → List Int} {v x : Nat} {d d2 : List Int}
theorem keepsR_le (hok : NetOk n L) (hD : DOk n L D) (hv : v < n) (hxv : x ≠ v) (htop : ∀ e, dAt d e ≤ 1099511627776)
    (hd : Fix (netW n L (x : Int) (-1)) d) (hd2 : Fix (netW n (takeR n D L v) (x : Int) (-1)) d2) : ∀ (k : Nat) (e : Nat), e ≠ v → dAt d e ≤ k → 0 ≤ dAt d e → 0 ≤ dAt d2 e ∧ dAt d2 e ≤ dAt d e := by
  have hok2 := takeR_ok hok D v
  have hw2 := okW hok2
  have hlow : ∀ y : Ar, (y ∈ L ∨ (y ∈ scR D L (v : Int) ∧ mayA n y)) → y.f ≠ (v : Int) → y.t ≠ (v : Int) → ∃ z ∈ takeR n D L v, z.f = y.f ∧ z.t = y.t ∧ z.w ≤ y.w := fun y hy h1 h2 => by
    obtain ⟨z, hz, e1, e2, e3⟩ := putRs_low (n := n) (scR D L (v : Int)) L y hy
    exact ⟨z, mem_cutN.2 ⟨hz, by omega, by omega⟩, e1, e2, e3⟩
  have step : ∀ (b e : Nat) (y : Ar), (y ∈ L ∨ (y ∈ scR D L (v : Int) ∧ mayA n y)) → y.f = (b : Int) → y.t = (e : Int) → b ≠ v → e ≠ v → 0 ≤ dAt d2 b → 0 ≤ dAt d2 e ∧ dAt d2 e ≤ dAt d2 b + y.w := fun b e y hy hf ht hb he h0 => by
    obtain ⟨c, hc, hcf, hct, hcw⟩ := hlow y hy (by omega) (by omega)
    have hs := hd2.shut e b (netW_rl hok2 hw2 hc (by omega) (by omega) (by omega)) h0
    rw [netW_wt hok2.sort hc (by omega) (by omega)] at hs
    omega
  intro k
  induction k using Nat.strongRecOn with
  | ind k ih =>
    intro e hev hk h0
    rcases hd.why e h0 with ⟨⟨h1, h1b⟩, h2⟩ | ⟨b, h1, h2, h3⟩
    · have := hd2.st e ⟨h1, h1b⟩ (by have := dAt_in h0; rw [hd.len] at this; exact this)
      omega
    · have hw1 := ((netW n L (x : Int) (-1)).one e b h1).1
      obtain ⟨q, hq, hqt, hqf, _, hwt⟩ := netW_inv h1
      by_cases hbv : b = v
      · subst hbv
        rcases hd.why b h2 with ⟨⟨h4, _⟩, _⟩ | ⟨c, h4, h5, h6⟩
        · omega
        · have hw3 := ((netW n L (x : Int) (-1)).one b c h4).1
          obtain ⟨p, hp, hpt, hpf, _, hwt2⟩ := netW_inv h4
          have hpm := hok.may p hp
          have hqm := hok.may q hq
          unfold mayA at hpm hqm
          have hcb : c ≠ b := by omega
          obtain ⟨g1, g2⟩ := ih (k - 1) (by omega) c hcb (by omega) h5
          have hpi : p ∈ inL L (b : Int) := List.mem_filter.2 ⟨hp, decide_eq_true hpt⟩
          have hqo : q ∈ outL L (b : Int) := List.mem_filter.2 ⟨hq, decide_eq_true hqf⟩
          cases ho : ovB D (b : Int) p q with
          | false =>
            have hce : c ≠ e := fun e2 => by subst e2; omega
            have htp := htop e
            have hmy : mayA n ⟨p.f, q.t, p.w + q.w, (b : Int)⟩ := by
              unfold mayA
              simp only
              refine ⟨by omega, by omega, by omega, by omega, by omega, by omega, by omega, .inr ⟨by omega, by omega, by omega, by omega⟩⟩
            have hs := step c e ⟨p.f, q.t, p.w + q.w, (b : Int)⟩ (.inr ⟨mem_scR.2 ⟨p, hpi, q, hqo, ho, rfl⟩, hmy⟩) hpf hqt hcb hev g1
            simp only at hs
            omega
          | true =>
            unfold ovB at ho
            rw [hpf, Int.toNat_natCast, hqt] at ho
            have h7 := foundB_iff.1 ho
            have hcf := cut_far16 hcb (hD c (b : Int))
            have := fix_tri16 hd2 hcf hok2 (fun a ha => by
              obtain ⟨k1, k2, k3⟩ := mem_cutN.1 ha
              exact hlow a (.inl k1) k2 k3) g1 (dAt (D c (b : Int)) e).toNat e (by omega) h7.1
            omega
      · obtain ⟨g1, g2⟩ := ih (k - 1) (by omega) b hbv (by omega) h2
        have hs := step b e q (.inl hq) hqf hqt hbv hev g1
        omega
/-- All are as far from each other as before. -/
theorem keepsR (hok : NetOk n L) (hD : DOk n L D) (hv : v < n) (hxv : x ≠ v) (htop : ∀ e, dAt d e ≤ 1099511627776)
    (hd : Fix (netW n L (x : Int) (-1)) d) (hd2 : Fix (netW n (takeR n D L v) (x : Int) (-1)) d2) (e : Nat) (he : e ≠ v) : dAt d2 e = dAt d e := by
  have l1 := hd.low e
  have l2 := hd2.low e
  have hge := fun u => (taken_net hok D (v := v) (fr := (x : Int)) (wo := -1) (by omega)).far hd hd2 (dAt d2 u).toNat u
  by_cases h0 : 0 ≤ dAt d e
  · have h1 := keepsR_le hok hD hv hxv htop hd hd2 (dAt d e).toNat e he (by omega) h0
    have h2 := hge e (by omega) h1.1
    omega
  · by_cases h1 : 0 ≤ dAt d2 e
    · have h2 := hge e (by omega) h1
      omega
    · omega
end
section
variable {n : Nat} {P : List Ar → Nat → Int → List Int} {L : List Ar}
theorem taken_no (hok : NetOk n L) {k : Nat} (hk : k ≤ n) {x : Nat} (hx : x ∉ (bAt n P L k).V) {dk : List Int} (hd : Fix (netW n (bAt n P L k).C (x : Int) (-1)) dk) {e : Nat} (he : e ∈ (bAt n P L k).V) : dAt dk e < 0 := by
  refine Classical.byContradiction fun h0 => ?_
  rcases hd.why e (by omega) with ⟨⟨h1, _⟩, _⟩ | ⟨b, h1, _, _⟩
  · have : e = x := by omega
    subst this; exact hx he
  · obtain ⟨a, ha, hat, _⟩ := netW_inv h1
    exact ((bAt_ok P hok k hk).out a ha e he).2 hat
/-- What is left is as far from each other as in the net. -/
theorem bAt_dist (hok : NetOk n L) (hn : n ≤ 512) (hP : ∀ L, DOk n L (P L)) {x : Nat} {d : List Int} (hd : Fix (netW n L (x : Int) (-1)) d) (htop : ∀ e, dAt d e ≤ 1099511627776) : ∀ k, k ≤ n → x ∉ (bAt n P L k).V → ∀ dk, Fix (netW n (bAt n P L k).C (x : Int) (-1)) dk → ∀ e, e ∉ (bAt n P L k).V → dAt dk e = dAt d e := by
  intro k
  induction k with
  | zero => exact fun _ _ dk hdk e _ => by rw [hdk.uniq hd]
  | succ k ih =>
    intro hk hx dk hdk e he
    rw [bAt_V] at hx he
    have hx1 : x ∉ (bAt n P L k).V := fun h => hx (List.mem_append_left _ h)
    have he1 : e ∉ (bAt n P L k).V := fun h => he (List.mem_append_left _ h)
    have hx2 : x ≠ bV n P L k := fun h => hx (List.mem_append_right _ (by simp [h]))
    have he2 : e ≠ bV n P L k := fun h => he (List.mem_append_right _ (by simp [h]))
    obtain ⟨dm, hdm⟩ := netW_ex n hn (bAt n P L k).C (x : Int) (-1)
    have hi := ih (by omega) hx1 dm hdm
    have htm : ∀ u, dAt dm u ≤ 1099511627776 := fun u => by
      by_cases hu : u ∈ (bAt n P L k).V
      · have := taken_no hok (by omega) hx1 hdm hu; omega
      · rw [hi u hu]; exact htop u
    rw [bAt_C] at hdk
    rw [keepsR (bAt_ok P hok k (by omega)).cok (hP _) (bV_lt P hok (by omega)).1 hx2 htm hdm hdk e he2, hi e he1]
/-- A way begins by an arc. -/
theorem first_arc {C : List Ar} (hok : NetOk n C) {x : Nat} {dx : List Int} (hx : Fix (netW n C (x : Int) (-1)) dx) (h0 : 0 ≤ dAt dx x) : ∀ (k : Nat) (v : Nat), dAt dx v ≤ k → 0 ≤ dAt dx v → v ≠ x → ∃ a ∈ C, a.f = (x : Int) ∧ ∀ (w : Nat) (dw : List Int), a.t = (w : Int) → Fix (netW n C (w : Int) (-1)) dw → 0 ≤ dAt dw v ∧ a.w + dAt dw v ≤ dAt dx v := by
  intro k
  induction k using Nat.strongRecOn with
  | ind k ih =>
    intro v hk hv hvx
    rcases hx.why v hv with ⟨⟨h1, _⟩, _⟩ | ⟨b, h1, h2, h3⟩
    · omega
    · have hw1 := ((netW n C (x : Int) (-1)).one v b h1).1
      have hvn := ((netW n C (x : Int) (-1)).one v b h1).2.2.1
      obtain ⟨q, hq, hqt, hqf, _, hwt⟩ := netW_inv h1
      by_cases hbx : b = x
      · subst hbx
        refine ⟨q, hq, hqf, fun w dw hw hdw => ?_⟩
        have : w = v := by omega
        subst this
        have := hdw.st w ⟨rfl, by omega⟩ hvn
        have := hdw.low w
        omega
      · obtain ⟨a, ha, haf, hall⟩ := ih (k - 1) (by omega) b (by omega) h2 hbx
        refine ⟨a, ha, haf, fun w dw hw hdw => ?_⟩
        obtain ⟨g1, g2⟩ := hall w dw hw hdw
        have hs := hdw.shut v b (netW_rl hok (okW hok) hq hqt hqf (by omega)) g1
        rw [netW_wt hok.sort hq hqt hqf] at hs
        omega
/-- Up by what goes up, then down by what goes down: no more than the distance. -/
theorem up_down (hok : NetOk n L) (hn : n ≤ 512) (hP : ∀ L, DOk n L (P L)) {dd : Nat → List Int} (hd : ∀ u : Nat, Fix (netW n L (u : Int) (-1)) (dd u)) (htop : ∀ u e, dAt (dd u) e ≤ 1099511627776) (f g : Nat → Int)
    (Hg : ∀ k, k < n → ∀ a ∈ outL (bAt n P L k).C (bV n P L k : Int), 0 ≤ g (bV n P L k) → 0 ≤ g a.t.toNat ∧ g a.t.toNat ≤ g (bV n P L k) + a.w) (H0 : ∀ v, v < n → 0 ≤ g v → 0 ≤ f v ∧ f v ≤ g v)
    (Hf : ∀ k, k < n → ∀ a ∈ inL (bAt n P L k).C (bV n P L k : Int), 0 ≤ f a.f.toNat → 0 ≤ f (bV n P L k) ∧ f (bV n P L k) ≤ f a.f.toNat + a.w) : ∀ m k, k + m = n → ∀ u v, u < n → v < n → u ∉ (bAt n P L k).V → v ∉ (bAt n P L k).V → 0 ≤ g u → 0 ≤ dAt (dd u) v → 0 ≤ f v ∧ f v ≤ g u + dAt (dd u) v := by
  intro m
  induction m with
  | zero =>
    intro k hk u v hu _ hum _ _ _
    obtain rfl : k = n := by omega
    exact absurd (bAt_all P hok hu) hum
  | succ m ih =>
    intro k hk u v hu hv huV hvV hg h0
    have hkn : k < n := by omega
    have hC := bAt_ok P hok k (by omega)
    have hI := ih (k + 1) (by omega)
    rw [bAt_V] at hI
    have hin : ∀ y, y ∉ (bAt n P L k).V → y ≠ bV n P L k → y ∉ (bAt n P L k).V ++ [bV n P L k] := fun y h1 h2 h3 => by
      rcases List.mem_append.1 h3 with h3 | h3
      · exact h1 h3
      · exact h2 (List.mem_singleton.1 h3)
    by_cases hux : u = bV n P L k
    · by_cases hvx : v = bV n P L k
      · rw [← hvx] at hux
        subst hux
        have := H0 u hu hg
        omega
      · obtain ⟨dk, hdk⟩ := netW_ex n hn (bAt n P L k).C (u : Int) (-1)
        have e1 := bAt_dist hok hn hP (hd u) (htop u) k (by omega) huV dk hdk v hvV
        have e0 := bAt_dist hok hn hP (hd u) (htop u) k (by omega) huV dk hdk u huV
        have hst := hdk.st u ⟨rfl, by omega⟩ hu
        obtain ⟨a, ha, haf, hall⟩ := first_arc hC.cok hdk (by omega) (dAt dk v).toNat v (by omega) (by omega) (by omega)
        have hm := hC.cok.may a ha
        unfold mayA at hm
        have ho := hC.out a ha
        obtain ⟨w, hw⟩ : ∃ w : Nat, a.t = (w : Int) := ⟨a.t.toNat, by omega⟩
        obtain ⟨dw, hdw⟩ := netW_ex n hn (bAt n P L k).C (w : Int) (-1)
        have hwV : w ∉ (bAt n P L k).V := fun h => (ho w h).2 hw
        obtain ⟨g1, g2⟩ := hall w dw hw hdw
        have e2 := bAt_dist hok hn hP (hd w) (htop w) k (by omega) hwV dw hdw v hvV
        have hgw := Hg k hkn a (mem_outL.2 ⟨ha, by omega⟩) (by rw [← hux]; exact hg)
        rw [hw, Int.toNat_natCast, ← hux] at hgw
        have := hI w v (by omega) hv (hin w hwV (by omega)) (hin v hvV hvx) hgw.1 (by omega)
        omega
    · by_cases hvx : v = bV n P L k
      · obtain ⟨dk, hdk⟩ := netW_ex n hn (bAt n P L k).C (u : Int) (-1)
        have e1 := bAt_dist hok hn hP (hd u) (htop u) k (by omega) huV dk hdk v hvV
        rcases hdk.why v (by omega) with ⟨⟨h1, _⟩, _⟩ | ⟨b, h1, h2, h3⟩
        · omega
        · obtain ⟨q, hq, hqt, hqf, _, hwt⟩ := netW_inv h1
          have hbn := ((netW n (bAt n P L k).C (u : Int) (-1)).one v b h1).2.2.2
          have hm := hC.cok.may q hq
          unfold mayA at hm
          have hbV : b ∉ (bAt n P L k).V := fun h => (hC.out q hq b h).1 hqf
          have e2 := bAt_dist hok hn hP (hd u) (htop u) k (by omega) huV dk hdk b hbV
          have h4 := hI u b hu hbn (hin u huV hux) (hin b hbV (by omega)) hg (by omega)
          have h5 := Hf k hkn q (mem_inL.2 ⟨hq, by omega⟩) (by rw [hqf, Int.toNat_natCast]; exact h4.1)
          rw [hqf, Int.toNat_natCast, ← hvx] at h5
          omega
      · exact hI u v hu hv (hin u huV hux) (hin v hvV hvx) hg h0
/-- No arc is shorter than the distance. -/
def SndA (n : Nat) (L A : List Ar) : Prop := ∀ a ∈ A, ∀ (s f t : Nat) (d : List Int), a.f = (f : Int) → a.t = (t : Int) → Fix (netW n L (s : Int) (-1)) d → 0 ≤ dAt d f → 0 ≤ dAt d t ∧ dAt d t ≤ dAt d f + a.w
theorem bAt_snd (hok : NetOk n L) : ∀ k, k ≤ n → SndA n L (bAt n P L k).C ∧ SndA n L (bAt n P L k).T := by
  intro k
  induction k with
  | zero =>
    have h : SndA n L L := fun a ha s f t d hf ht hd h0 => by
      have hs := hd.shut t f (netW_rl hok (okW hok) ha ht hf (by omega)) h0
      rw [netW_wt hok.sort ha ht hf] at hs
      exact hs
    exact fun _ => ⟨h, h⟩
  | succ k ih =>
    intro hk
    obtain ⟨hC, hT⟩ := ih (by omega)
    have hc := bAt_ok P hok k (by omega)
    have hA : SndA n L (scR (P (bAt n P L k).C) (bAt n P L k).C ((bV n P L k : Nat) : Int)) := fun a ha s f t d hf ht hd h0 => by
      obtain ⟨p, hp, q, hq, _, rfl⟩ := mem_scR.1 ha
      obtain ⟨hp1, hp2⟩ := mem_inL.1 hp
      obtain ⟨hq1, hq2⟩ := mem_outL.1 hq
      simp only at hf ht ⊢
      have h1 := hC p hp1 s f (bV n P L k) d hf hp2 hd h0
      have h2 := hC q hq1 s (bV n P L k) t d hq2 ht hd h1.1
      omega
    refine ⟨fun a ha => ?_, fun a ha => ?_⟩
    · rw [bAt_C] at ha
      rcases mem_putRs _ _ _ (mem_cutN.1 ha).1 with h | h
      · exact hC a h
      · exact hA a h
    · rw [bAt_T] at ha
      rcases mem_putRs _ _ _ ha with h | h
      · exact hT a h
      · exact hA a h
end
/-- Distances are no more than all weights one behind the other. -/
theorem Fix.topC {X : Web} {d : List Int} (h : Fix X d) (c : Int) (hc : 0 ≤ c) (hw : ∀ e b, X.rl e b → X.wt e b ≤ c) : ∀ (A : List Nat) (k : Nat) (e : Nat), dAt d e ≤ k → 0 ≤ dAt d e → (∀ u, 0 ≤ dAt d u → dAt d u < dAt d e → u ∈ A) → dAt d e ≤ c * A.length := by
  intro A
  induction hl : A.length generalizing A with
  | zero =>
    intro k e _ h0 hA
    have : A = [] := List.eq_nil_of_length_eq_zero hl
    subst this
    rcases h.why e h0 with ⟨_, h2⟩ | ⟨b, h1, h2, h3⟩
    · omega
    · have := (X.one e b h1).1
      exact absurd (hA b h2 (by omega)) (by simp)
  | succ m ih =>
    intro k e hk h0 hA
    rcases h.why e h0 with ⟨_, h2⟩ | ⟨b, h1, h2, h3⟩
    · rw [h2]; exact Int.mul_nonneg hc (by omega)
    · have h4 := (X.one e b h1).1
      have hb := hA b h2 (by omega)
      have h5 := ih (A.erase b) (by rw [List.length_erase_of_mem hb]; omega) k b (by omega) h2 (fun u hu hlt => (List.mem_erase_of_ne (by intro e2; subst e2; omega)).2 (hA u hu (by omega)))
      have h6 := hw e b h1
      have h7 : c * ((m + 1 : Nat) : Int) = c * (m : Int) + c := by rw [Int.natCast_add, Int.mul_add]; simp
      rw [h7]
      omega
theorem dist_top {n : Nat} {L : List Ar} (hn : n ≤ 512) (hw : ∀ a ∈ L, a.w ≤ 65535) {s : Nat} {d : List Int} (h : Fix (netW n L (s : Int) (-1)) d) : ∀ e, dAt d e ≤ 1099511627776 := fun e => by
  by_cases h0 : 0 ≤ dAt d e
  · have := h.topC 65535 (by omega) (fun e b hr => by obtain ⟨a, ha, _, _, _, hwt⟩ := netW_inv hr; rw [hwt]; exact hw a ha) (List.range n) (dAt d e).toNat e (by omega) h0 (fun u hu _ => List.mem_range.2 (by have := dAt_in hu; rw [h.len] at this; exact this))
    rw [List.length_range] at this
    omega
  · omega
end Go.Proofs.YtjjedebjbgpimaaGreat
