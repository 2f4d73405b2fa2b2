/- DistBothWays walked. -/
import Derived.Test.YtgiojfihgdifbaaAwake11
import Derived.Test.YtgiojfihgdifbaaKOpen
import Derived.Test.YtgiojfihgdifbaaRegion2
import Derived.Deep.DeepCutAuto
import Derived.Deep.CutBlock
namespace Go.Proofs.Ytgiojfihgdifbaa
open Go.RowKit Mile
set_option maxRecDepth 100000
/-- The nearest of the first k edges that end at v. -/
def bestF (G : GD) (v : Int) (f : List Int) : Nat → Int
  | 0 => -1
  | k + 1 => if (eAt G (k : Int)).2.1 = v ∧ 0 ≤ dAt f k ∧ (bestF G v f k < 0 ∨ dAt f k < bestF G v f k) then dAt f k else bestF G v f k
theorem bestF_low (G : GD) (v : Int) (f : List Int) : ∀ k, -1 ≤ bestF G v f k
  | 0 => by show (-1 : Int) ≤ -1; omega
  | k + 1 => by
    have h := bestF_low G v f k
    show -1 ≤ (if _ then _ else _)
    split
    · omega
    · exact h
theorem bestF_why (G : GD) (v : Int) (f : List Int) : ∀ k, 0 ≤ bestF G v f k → ∃ i, i < k ∧ (eAt G (i : Int)).2.1 = v ∧ bestF G v f k = dAt f i
  | 0, h => by replace h : (0 : Int) ≤ -1 := h; omega
  | k + 1, h => by
    have ih := bestF_why G v f k
    have e : bestF G v f (k + 1) = (if (eAt G (k : Int)).2.1 = v ∧ 0 ≤ dAt f k ∧ (bestF G v f k < 0 ∨ dAt f k < bestF G v f k) then dAt f k else bestF G v f k) := rfl
    rw [e] at h ⊢
    split at h
    · rename_i hc; rw [if_pos hc]; exact ⟨k, by omega, hc.1, rfl⟩
    · rename_i hc; rw [if_neg hc]
      obtain ⟨i, h1, h2⟩ := ih h
      exact ⟨i, by omega, h2⟩
theorem bestF_le (G : GD) (v : Int) (f : List Int) : ∀ (k i : Nat), i < k → (eAt G (i : Int)).2.1 = v → 0 ≤ dAt f i → 0 ≤ bestF G v f k ∧ bestF G v f k ≤ dAt f i
  | 0, i, h, _, _ => by omega
  | k + 1, i, h, hv, h0 => by
    have ih := bestF_le G v f k
    have e : bestF G v f (k + 1) = (if (eAt G (k : Int)).2.1 = v ∧ 0 ≤ dAt f k ∧ (bestF G v f k < 0 ∨ dAt f k < bestF G v f k) then dAt f k else bestF G v f k) := rfl
    rw [e]
    by_cases hik : i = k
    · subst hik
      split
      · omega
      · rename_i hc
        have : ¬ (bestF G v f i < 0 ∨ dAt f i < bestF G v f i) := fun x => hc ⟨hv, h0, x⟩
        omega
    · have := ih i (by omega) hv h0
      split
      · rename_i hc; omega
      · exact this
theorem bestF_take (G : GD) (v : Int) (f : List Int) (k : Nat) (hk : k < G.E.length) (hf : k < f.length) : bestF G v f (k + 1) = if (G.E[k]).2.1 = v ∧ 0 ≤ f[k] ∧ (bestF G v f k < 0 ∨ f[k] < bestF G v f k) then f[k] else bestF G v f k := by
  rw [← dAt_eq f k hf, ← eAt_eq G k hk]; rfl
/-- On from where one is. -/
theorem both_le {G : GD} {hm : May G} {a v : Int} {cl : List Bool} {f d : List Int} (hf : Fix (webFrom G hm a cl) f) (hd : Fix (webTo G hm v cl) d) (k : Nat) (hk : (k : Int) = a) : ∀ (n : Nat) x, 0 ≤ dAt f x → dAt f x ≤ n → 0 ≤ dAt d x → 0 ≤ dAt d k ∧ dAt d k ≤ dAt f x + dAt d x := by
  intro n
  induction n using Nat.strongRecOn with
  | ind n ih =>
    intro x h0 hn h1
    rcases hf.why x h0 with ⟨h2, h3⟩ | ⟨b, h2, h3, h4⟩
    · have e : (x : Int) = a := h2
      obtain rfl : x = k := by omega
      omega
    · have hw := ((webFrom G hm a cl).one x b h2).1
      have hs := hd.shut b x h2 h1
      have := ih (n - 1) (by omega) b h3 (by omega) hs.1
      have e1 : (webFrom G hm a cl).wt x b = (eAt G (x : Int)).2.2 := rfl
      have e2 : (webTo G hm v cl).wt b x = (eAt G (x : Int)).2.2 := rfl
      rw [e1] at h4
      rw [e2] at hs
      omega
theorem both_why {G : GD} {hm : May G} {a v : Int} {cl : List Bool} {f d : List Int} (hf : Fix (webFrom G hm a cl) f) (hd : Fix (webTo G hm v cl) d) : ∀ (n : Nat) x, 0 ≤ dAt d x → dAt d x ≤ n → 0 ≤ dAt f x → ∃ i, i < G.E.length ∧ (eAt G (i : Int)).2.1 = v ∧ 0 ≤ dAt f i ∧ dAt f i ≤ dAt f x + dAt d x := by
  intro n
  induction n using Nat.strongRecOn with
  | ind n ih =>
    intro x h0 hn h1
    have hx : x < G.E.length := by have h := hf.len; have := dAt_in h1; rw [h] at this; exact this
    rcases hd.why x h0 with ⟨h2, h3⟩ | ⟨b, h2, h3, h4⟩
    · exact ⟨x, hx, h2, h1, by omega⟩
    · have hw := ((webTo G hm v cl).one x b h2).1
      have hs := hf.shut b x h2 h1
      have e1 : (webTo G hm v cl).wt x b = (eAt G (b : Int)).2.2 := rfl
      have e2 : (webFrom G hm a cl).wt b x = (eAt G (b : Int)).2.2 := rfl
      rw [e1] at h4 hw
      rw [e2] at hs
      obtain ⟨i, k1, k2, k3, k4⟩ := ih (n - 1) (by omega) b h3 (by omega) hs.1
      exact ⟨i, k1, k2, k3, by omega⟩
theorem both_eq {G : GD} {hm : May G} {v : Int} {cl : List Bool} {f d : List Int} (k : Nat) (hk : k < G.E.length) (hf : Fix (webFrom G hm (k : Int) cl) f) (hd : Fix (webTo G hm v cl) d) : bestF G v f G.E.length = dAt d k := by
  have f0 : dAt f k = 0 := hf.st k rfl hk
  have l1 := hd.low k
  have l2 := bestF_low G v f G.E.length
  by_cases h : 0 ≤ dAt d k
  · obtain ⟨i, k1, k2, k3, k4⟩ := both_why hf hd (dAt d k).toNat k h (by omega) (by omega)
    have h1 := bestF_le G v f _ i k1 k2 k3
    obtain ⟨j, j1, j2, j3⟩ := bestF_why G v f _ h1.1
    have dj : dAt d j = 0 := hd.st j j2 j1
    have := both_le hf hd k rfl (dAt f j).toNat j (by omega) (by omega) (by omega)
    omega
  · by_cases h1 : 0 ≤ bestF G v f G.E.length
    · obtain ⟨j, j1, j2, j3⟩ := bestF_why G v f _ h1
      have dj : dAt d j = 0 := hd.st j j2 j1
      have := both_le hf hd k rfl (dAt f j).toNat j (by omega) (by omega) (by omega)
      omega
    · omega
theorem TFar.fix {G : GD} {hm : May G} {v : Int} {cl : List Bool} {xs : List Int} (h : TFar G hm v cl xs) (hv : 0 ≤ v ∧ v < (G.N.length : Int)) : Fix (webTo G hm v cl) xs := by
  rcases h with ⟨_, h⟩ | ⟨h, _⟩
  · exact h
  · exact absurd hv h
theorem FFar.fix {G : GD} {hm : May G} {v : Int} {cl : List Bool} {xs : List Int} (h : FFar G hm v cl xs) (hv : 0 ≤ v ∧ v < (G.E.length : Int)) : Fix (webFrom G hm v cl) xs := by
  rcases h with ⟨_, h⟩ | ⟨h, _⟩
  · exact h
  · exact absurd hv h
theorem Btw.at {G : GD} {hm : May G} {v : Int} {cl : List Bool} {k : Nat} {x : Int} {d : List Int} (h : Btw G hm v cl (k : Int) x) (hv : 0 ≤ v ∧ v < (G.N.length : Int)) (hk : k < G.E.length) (hd : Fix (webTo G hm v cl) d) : x = dAt d k := by
  rcases h with ⟨_, d', h1, h2⟩ | ⟨h, _⟩
  · rw [h2, h1.uniq hd]; rfl
  · exact absurd ⟨hv, by omega, by omega⟩ h

set_option maxHeartbeats 64000000 in
theorem dboth_all (w : World) (a0 : Option Addr) (m c0 : Nat) (l : List Int) (hm : l.length = m) (hr : Rd w 1 (.slice a0 m c0) m (l.map (Value.int .i64))) (a4 : Option Addr) (n4 d4 : Nat) (sh : List Int) (hn4 : sh.length = n4) (hr4 : Rd w 1 (.slice a4 n4 d4) n4 (sh.map (Value.int .i64))) (ev : Int) :
    Calls Try.prog 6 #[.slice a0 m c0, .slice a4 n4 d4, .int .i64 ev] w fun e w' => e = .returned (.bool true) ∧ Mod (fun _ => False) w w' := by
  obtain ⟨iI, hiI, hzI, hsI, hbI⟩ := info_parts GR.infoI
  obtain ⟨iE, hiE, hzE, hsE, hbE⟩ := info_parts GR.infoE
  by_cases hlen0 : m ≤ 100
  case neg =>
    have HS : Hid (Ev (Mod (fun _ => False) w) w) := Lib.hid (Ev.mod w)
    have z0 : decide (100 < (m : Int)) = true := by simp; omega
    have z1 : decide (100 < m) = true := by simp; omega
    go_enter Try.func6, Try.ntmps6
    go_wp2_with fail
    refine (awake11_any _).mono ?_
    rintro e wq1 ⟨rfl, hm⟩
    replace HS := Lib.hid (HS.out.step hm)
    clear hm
    go_wp2_with fail
    go_ret
    exact ⟨rfl, HS.out.now⟩
  by_cases hlen1 : n4 ≤ 40
  case neg =>
    have HS : Hid (Ev (Mod (fun _ => False) w) w) := Lib.hid (Ev.mod w)
    have y0 : decide (100 < (m : Int)) = false := by simp; omega
    have z0 : decide (40 < (n4 : Int)) = true := by simp; omega
    have z1 : decide (40 < n4) = true := by simp; omega
    go_enter Try.func6, Try.ntmps6
    go_wp2_with fail
    refine (awake11_any _).mono ?_
    rintro e wq2 ⟨rfl, hm⟩
    replace HS := Lib.hid (HS.out.step hm)
    clear hm
    go_wp2_with fail
    go_ret
    exact ⟨rfl, HS.out.now⟩
  have HS : Hid (Ev (Mod (fun _ => False) w) w) := Lib.hid (Ev.mod w)
  have y0 : decide (100 < (m : Int)) = false := by simp; omega
  have y1 : decide (40 < (n4 : Int)) = false := by simp; omega
  replace HS := Lib.hid ((Ev.rd hr).and HS.out)
  replace HS := Lib.hid ((Ev.rd hr4).and HS.out)
  have HN4 := Lib.hid hn4
  clear hr hr4 hn4
  go_enter Try.func6, Try.ntmps6
  go_wp2_with fail
  refine (made11_any _ a0 m c0 l hm ((HS.out.now).2.1)).mono ?_
  rintro e wq3 ⟨a1, n1, d1, a2, n2, d2, a3, n3, d3, t, p, B, C, rfl, hg, hto, hmm⟩
  replace HS := Lib.hid (HS.out.step hmm)
  clear hmm
  replace HS := Lib.hid ((Ev.gv hg).and HS.out)
  replace HS := Lib.hid ((Ev.to hto).and HS.out)
  clear hg hto y0 y1
  have hmay := Lib.hid (town_may l)
  have hfew := Lib.hid (town_few l)
  obtain ⟨G, hG⟩ : ∃ G, townG l = G := ⟨_, rfl⟩
  rw [hG] at hmay hfew
  rw [hG] at HS
  clear hG
  have hn := Lib.hid ((HS.out.now).2.1.n)
  have he := Lib.hid ((HS.out.now).2.1.e)
  have hb := Lib.hid ((HS.out.now).2.1.b)
  have h1n : n1 ≤ 16 := by have := hfew.out.1.2; have := hn.out; omega
  have h2n : n2 ≤ 67 := by have := hfew.out.2.1.2; have := he.out; omega
  have h2p : 1 ≤ n2 := by have := hfew.out.2.1.1; have := he.out; omega
  have h3n : n3 ≤ 469 := by have := hfew.out.2.2; have := hb.out; omega
  go_wp2_with fail
  obtain ⟨bg, hbg⟩ : ∃ b, wq3.heap.size = b := ⟨_, rfl⟩
  obtain ⟨wq4, hwq4⟩ : ∃ W, World.alloc wq3 (.cells #[.slice a1 n1 d1, .slice a2 n2 d2, .slice a3 n3 d3] 29) = W := ⟨_, rfl⟩
  have hBbg : Blk wq4 bg 29 [.slice a1 n1 d1, .slice a2 n2 d2, .slice a3 n3 d3] := by rw [← hwq4, ← hbg]; exact Blk.new _ 29 [.slice a1 n1 d1, .slice a2 n2 d2, .slice a3 n3 d3]
  have hzbg : wq4.heap.size = bg + 1 := by rw [← hwq4, ← hbg]; exact heap_size_alloc _ _
  replace HS := Lib.hid (HS.out.step (w' := wq4) (by rw [← hwq4]; exact Mod.alloc _ _ _))
  replace HS := Lib.hid ((Ev.blk hBbg).and HS.out)
  try rw [hwq4]
  try rw [hbg]
  clear hzbg hBbg hbg hwq4
  have hbbg := (HS.out.now).1
  have qbg_0 := hbbg.cell 0 rfl
  have qbg_1 := hbbg.cell 1 rfl
  have qbg_2 := hbbg.cell 2 rfl
  have lbg := hbbg.lt
  clear hbbg
  have hmay0 := hmay.out
  clear hmay
  obtain ⟨hmay, hmy⟩ : ∃ h : May G, h = hmay0 := ⟨_, rfl⟩
  clear hmy hmay0
  go_wp2_with fail
  refine (shut_any G (by have := hfew.out.2.1.1; omega) _ a1 n1 d1 a2 n2 d2 a3 n3 d3 ((HS.out.now).2.2.1) (by omega) a4 n4 d4 sh HN4.out ((HS.out.now).2.2.2.1) (by omega)).mono ?_
  rintro e w' ⟨rb, rfl, ho, hmc⟩
  clear qbg_0 qbg_1 qbg_2 lbg
  obtain ⟨wa, hwa⟩ : ∃ x : World, x = w' := ⟨_, rfl⟩
  subst hwa
  replace HS := Lib.hid (HS.out.step hmc)
  obtain ⟨ac, nc, cc, cl, hc0, HNC, hcl⟩ : ∃ ac nc cc cl, Value.slice ac nc cc = .slice (some ⟨rb, 0, none⟩) n2 n2 ∧ Hid (List.length (α := Bool) cl = nc) ∧ Rd wa 1 (.slice ac nc cc) nc (cl.map Value.bool) := ⟨some ⟨rb, 0, none⟩, n2, n2, shutL n2 sh, rfl, Lib.hid (shutL_len n2 sh), Rd.ofOwn ho⟩
  replace HS := Lib.hid ((Ev.rd hcl).and HS.out)
  clear hcl ho hmc
  have hbbg := (HS.out.now).2.1
  have qbg_0 := hbbg.cell 0 rfl
  have qbg_1 := hbbg.cell 1 rfl
  have qbg_2 := hbbg.cell 2 rfl
  have lbg := hbbg.lt
  clear hbbg
  simp only [← hc0]
  clear hc0
  go_wp2_with fail
  refine (round_any ev (n2 : Int) _ (by omega) (by omega)).mono ?_
  rintro e w' ⟨rfl, rfl⟩
  have hr0 := Int.emod_nonneg (ev) (b := (n2 : Int)) (by omega)
  have hr1 := Int.emod_lt_of_pos (ev) (b := (n2 : Int)) (by omega)
  obtain ⟨ia, hr2⟩ := Int.eq_ofNat_of_zero_le hr0
  rw [hr2] at hr1 ⊢
  have HIA := Lib.hid hr2
  have HIAb := hr1
  clear hr0 hr1 hr2
  have hian : ia < n2 := by omega
  have hial : ia < G.E.length := by rw [he.out]; exact hian
  go_wp2_with fail
  refine (dfrom_far t p B C G hmay _ ((HS.out.now).2.2.1) (ia : Int) ac nc cc cl HNC.out ((HS.out.now).1)).mono ?_
  rintro e w' ⟨x, rfl, ⟨af, nf, cf, f, rfl, hfl, hfb, hfr, hF⟩, hmc⟩
  clear qbg_0 qbg_1 qbg_2 lbg
  obtain ⟨wf5, hwa⟩ : ∃ x : World, x = w' := ⟨_, rfl⟩
  subst hwa
  replace HS := Lib.hid (HS.out.step hmc)
  have hfix := hF.fix ⟨by omega, by omega⟩
  obtain rfl : n2 = nf := by rw [← hfl, hfix.len]; exact he.out.symm
  have HF := Lib.hid hfix
  have HFl := Lib.hid hfl
  replace HS := Lib.hid ((Ev.rd hfr).and HS.out)
  clear hfr hfl hfb hF hfix hmc
  have hbbg := (HS.out.now).2.2.1
  have qbg_0 := hbbg.cell 0 rfl
  have qbg_1 := hbbg.cell 1 rfl
  have qbg_2 := hbbg.cell 2 rfl
  have lbg := hbbg.lt
  clear hbbg
  go_wp2_with fail
  replace HS := Lib.hid ((Ev.mod wf5).and HS.out)
  go_loopw [12] (fun i wr => ∃ vv : Nat, vv ≤ n1 ∧ i = .int .i64 vv ∧ Mod (fun _ => False) wf5 wr) (fun i _ => n1 - (intOf i).toNat)
  case atStart => exact ⟨0, by omega, rfl, Mod.refl _ _⟩
  case round =>
    obtain ⟨vv, hvv, rfl, hmr⟩ := hrel
    obtain ⟨wo, hwo⟩ : ∃ x : World, x = wr := ⟨_, rfl⟩
    subst hwo
    replace HS := Lib.hid (HS.out.step hmr)
    clear hmr
    clear qbg_0 qbg_1 qbg_2 lbg
    have hbbg := (HS.out.now).2.2.2.1
    have qbg_0 := hbbg.cell 0 rfl
    have qbg_1 := hbbg.cell 1 rfl
    have qbg_2 := hbbg.cell 2 rfl
    have lbg := hbbg.lt
    clear hbbg
    by_cases hlv : vv < n1
    case pos =>
      have z0 : decide ((vv : Int) < (n1 : Int)) = true := by simp; omega
      have hvN : 0 ≤ (vv : Int) ∧ (vv : Int) < (G.N.length : Int) := ⟨by omega, by rw [hn.out]; omega⟩
      have HVN := Lib.hid hvN
      clear hvN
      go_wp2_with fail
      clear z0
      replace HS := Lib.hid ((Ev.mod wo).and HS.out)
      go_loopw [13, 14] (fun s i wr => ∃ (k : Nat) (b0 : Int), k ≤ n2 ∧ i = .int .i64 k ∧ s = .int .i64 b0 ∧ b0 = bestF G (vv : Int) f k ∧ Mod (fun _ => False) wo wr) (fun s i _ => n2 - (intOf i).toNat)
      case atStart => exact ⟨0, -1, by omega, rfl, rfl, rfl, Mod.refl _ _⟩
      case round =>
        obtain ⟨k, b0, hk, rfl, rfl, hs, hmr⟩ := hrel
        obtain ⟨wi, hwo⟩ : ∃ x : World, x = wr := ⟨_, rfl⟩
        subst hwo
        replace HS := Lib.hid (HS.out.step hmr)
        clear hmr
        clear qbg_0 qbg_1 qbg_2 lbg
        have hbbg := (HS.out.now).2.2.2.2.1
        have qbg_0 := hbbg.cell 0 rfl
        have qbg_1 := hbbg.cell 1 rfl
        have qbg_2 := hbbg.cell 2 rfl
        have lbg := hbbg.lt
        clear hbbg
        have HB := Lib.hid hs
        clear hs
        by_cases hlk : k < n2
        case pos =>
          have z0 : decide ((k : Int) < (n2 : Int)) = true := by simp; omega
          have hkE : k < G.E.length := by rw [he.out]; exact hlk
          have hkf : k < f.length := by rw [HFl.out]; exact hlk
          have ht := bestF_take G (vv : Int) f k hkE hkf
          obtain ⟨xa, Hxa0⟩ : ∃ qz, (G.E[k]).1 = qz := ⟨_, rfl⟩
          have Hxa := Lib.hid Hxa0
          clear Hxa0
          obtain ⟨ya, Hya0⟩ : ∃ qz, (G.E[k]).2.1 = qz := ⟨_, rfl⟩
          have Hya := Lib.hid Hya0
          clear Hya0
          obtain ⟨za, Hza0⟩ : ∃ qz, (G.E[k]).2.2 = qz := ⟨_, rfl⟩
          have Hza := Lib.hid Hza0
          clear Hza0
          obtain ⟨fk, HFK0⟩ : ∃ qz, f[k] = qz := ⟨_, rfl⟩
          have HFK := Lib.hid HFK0
          clear HFK0
          rw [HFK.out, Hya.out, ← HB.out] at ht
          have HTK := Lib.hid ht
          clear ht
          obtain ⟨eb, eo, hpl, e0, e1, e2⟩ := rd3 (HS.out.now).2.2.2.2.2.2.1.re k hkE
          have hix := fun wx => run_indexS (P := Try.prog) wx 26 43 iE 3 Try.underlying26 hiE hsE a2 n2 d2 k hlk ((HS.out.now).2.2.2.2.2.2.1.re.some_ (by have := hlk; omega))
          rw [hpl] at hix
          have HIe := Lib.hid hix
          clear hix hpl
          rw [Hxa.out] at e0
          replace HS := Lib.hid ((Ev.cell e0).and HS.out)
          clear e0
          rw [Hya.out] at e1
          replace HS := Lib.hid ((Ev.cell e1).and HS.out)
          clear e1
          rw [Hza.out] at e2
          replace HS := Lib.hid ((Ev.cell e2).and HS.out)
          clear e2
          obtain ⟨gb, go, hpl, e0⟩ := rd1 (HS.out.now).2.2.2.2.2.1 k hkf
          have hix := fun wx => run_indexS (P := Try.prog) wx 22 3 iI 1 Try.underlying22 hiI hsI af n2 cf k hlk ((HS.out.now).2.2.2.2.2.1.some_ (by have := hlk; omega))
          rw [hpl] at hix
          have HIg := Lib.hid hix
          clear hix hpl
          rw [HFK.out] at e0
          replace HS := Lib.hid ((Ev.cell e0).and HS.out)
          clear e0
          have qe1 := (HS.out.now).2.2.1
          have qg := (HS.out.now).1
          have hix1 := HIe.out
          have hix2 := HIg.out
          by_cases c1 : ya = (vv : Int)
          case neg =>
            have z1 : (ya == (vv : Int)) = false := beq_eq_false_iff_ne.2 c1
            go_wp2_with fail
            go_roundw
            case rel => exact ⟨k + 1, b0, hlk, by go_num, rfl, by rw [HTK.out, if_neg (by omega)], (HS.out.now).2.2.2.2.1⟩
            case measure => simp [intOf]; omega
          case pos =>
            have z1 : (ya == (vv : Int)) = true := by rw [c1]; simp
            have c1i : ya - (vv : Int) = 0 := by omega
            have C1 := Lib.hid c1
            clear c1 c1i
            by_cases c2 : 0 ≤ fk
            case neg =>
              have z2 : decide (0 ≤ fk) = false := by simp; omega
              go_wp2_with fail
              go_roundw
              case rel => exact ⟨k + 1, b0, hlk, by go_num, rfl, by rw [HTK.out, if_neg (by omega)], (HS.out.now).2.2.2.2.1⟩
              case measure => simp [intOf]; omega
            case pos =>
              have z2 : decide (0 ≤ fk) = true := by simp; omega
              by_cases c3 : b0 < 0
              case pos =>
                have z3 : decide (b0 < 0) = true := by simp; omega
                go_wp2_with fail
                go_roundw
                case rel => exact ⟨k + 1, fk, hlk, by go_num, rfl, by rw [HTK.out, if_pos ⟨C1.out, c2, .inl c3⟩], (HS.out.now).2.2.2.2.1⟩
                case measure => simp [intOf]; omega
              case neg =>
                have z3 : decide (b0 < 0) = false := by simp; omega
                by_cases c4 : fk < b0
                case pos =>
                  have z4 : decide (fk < b0) = true := by simp; omega
                  go_wp2_with fail
                  go_roundw
                  case rel => exact ⟨k + 1, fk, hlk, by go_num, rfl, by rw [HTK.out, if_pos ⟨C1.out, c2, .inr c4⟩], (HS.out.now).2.2.2.2.1⟩
                  case measure => simp [intOf]; omega
                case neg =>
                  have z4 : decide (fk < b0) = false := by simp; omega
                  go_wp2_with fail
                  go_roundw
                  case rel => exact ⟨k + 1, b0, hlk, by go_num, rfl, by rw [HTK.out, if_neg (by omega)], (HS.out.now).2.2.2.2.1⟩
                  case measure => simp [intOf]; omega
        case neg =>
          obtain rfl : n2 = k := by omega
          have z0 : decide ((n2 : Int) < (n2 : Int)) = false := by simp
          go_wp2_with fail
          refine (dto_far t p B C G hmay _ ((HS.out.now).2.2.2.2.2.1) (vv : Int) ac nc cc cl HNC.out ((HS.out.now).2.2.2.1)).mono ?_
          rintro e w' ⟨x, rfl, ⟨ad, nf, cd, d, rfl, hfl, hfb, hfr, hF⟩, hmc⟩
          clear qbg_0 qbg_1 qbg_2 lbg
          obtain ⟨wf6, hwa⟩ : ∃ x : World, x = w' := ⟨_, rfl⟩
          subst hwa
          replace HS := Lib.hid (HS.out.step hmc)
          have hfix := hF.fix HVN.out
          obtain rfl : n2 = nf := by rw [← hfl, hfix.len]; exact he.out.symm
          have HD := Lib.hid hfix
          have HDl := Lib.hid hfl
          replace HS := Lib.hid ((Ev.rd hfr).and HS.out)
          clear hfr hfl hfb hF hfix hmc
          have hbbg := (HS.out.now).2.2.2.2.2.1
          have qbg_0 := hbbg.cell 0 rfl
          have qbg_1 := hbbg.cell 1 rfl
          have qbg_2 := hbbg.cell 2 rfl
          have lbg := hbbg.lt
          clear hbbg
          have hb1 := both_eq ia hial HF.out HD.out
          rw [he.out, ← HB.out] at hb1
          have HB1 := Lib.hid hb1
          clear hb1
          have hdl : ia < d.length := by rw [HDl.out]; exact hian
          go_wp2_with fail
          refine (dbtw_any t p B C G hmay _ ((HS.out.now).2.2.2.2.2.2.1) (ia : Int) (vv : Int) ac nc cc cl HNC.out ((HS.out.now).2.2.2.2.1)).mono ?_
          rintro e w' hp
          clear qbg_0 qbg_1 qbg_2 lbg
          obtain ⟨x, hbt, rfl, hmc⟩ := hp
          obtain ⟨wc, hwc⟩ : ∃ x : World, x = w' := ⟨_, rfl⟩
          subst hwc
          replace HS := Lib.hid (HS.out.step hmc)
          clear hmc
          have hbbg := (HS.out.now).2.2.2.2.2.1
          have qbg_0 := hbbg.cell 0 rfl
          have qbg_1 := hbbg.cell 1 rfl
          have qbg_2 := hbbg.cell 2 rfl
          have lbg := hbbg.lt
          clear hbbg
          have hb1 := HB1.out
          have hx := hbt.at HVN.out hial HD.out
          have hl0 := HD.out.low ia
          rw [← hx] at hb1 hl0
          rw [dAt_eq d ia hdl] at hx
          subst hb1
          have HX := Lib.hid hx.symm
          clear hbt hx HB HB1
          obtain ⟨hb, ho, hpl, e0⟩ := rd1 (HS.out.now).1 ia hdl
          have hix := fun wx => run_indexS (P := Try.prog) wx 22 3 iI 1 Try.underlying22 hiI hsI ad n2 cd ia hian ((HS.out.now).1.some_ (by have := hian; omega))
          rw [hpl] at hix
          have HIh := Lib.hid hix
          clear hix hpl
          rw [HX.out] at e0
          replace HS := Lib.hid ((Ev.cell e0).and HS.out)
          clear e0
          have qh := (HS.out.now).1
          have hix := HIh.out
          by_cases c1 : b0 = -1
          case pos =>
            subst c1
            simp only [if_true, ne_eq, not_true_eq_false, decide_false]
            go_wp2_with fail
            go_roundw
            case rel => exact ⟨vv + 1, hlv, by go_num, (HS.out.now).2.2.2.1⟩
            case measure => simp [intOf]; omega
          case neg =>
            have z1 : decide (0 ≤ b0) = true := by simp; omega
            simp only [if_neg c1, ne_eq, c1, not_false_eq_true, decide_true]
            clear c1
            go_wp2_with fail
            go_roundw
            case rel => exact ⟨vv + 1, hlv, by go_num, (HS.out.now).2.2.2.1⟩
            case measure => simp [intOf]; omega
    case neg =>
      obtain rfl : n1 = vv := by omega
      have z0 : decide ((n1 : Int) < (n1 : Int)) = false := by simp
      go_wp2_with fail
      refine (awake11_any _).mono ?_
      rintro e wq7 ⟨rfl, hmz⟩
      replace HS := Lib.hid (HS.out.step hmz)
      clear hmz
      clear qbg_0 qbg_1 qbg_2 lbg
      have hbbg := (HS.out.now).2.2.2.1
      have qbg_0 := hbbg.cell 0 rfl
      have qbg_1 := hbbg.cell 1 rfl
      have qbg_2 := hbbg.cell 2 rfl
      have lbg := hbbg.lt
      clear hbbg
      go_wp2_with fail
      go_ret
      exact ⟨rfl, (HS.out.now).2.2.2.2.2.2.2.2⟩
theorem dboth_law (w : World) (a0 : Option Addr) (m c0 : Nat) (l : List Int) (ok : (encSlice (encInt .i64)).ok w (.slice a0 m c0, l)) (a4 : Option Addr) (n4 d4 : Nat) (sh : List Int) (ok4 : (encSlice (encInt .i64)).ok w (.slice a4 n4 d4, sh)) (ev : Int) (_ : (Lit.int .i64 ev).wf = true) :
    Calls Try.prog 6 #[.slice a0 m c0, .slice a4 n4 d4, .int .i64 ev] w fun e w' => e = .returned (.bool true) ∧ Below w.heap.size w w' := by
  obtain ⟨hn, hr, _⟩ := ok_ints ok
  obtain ⟨hn4, hr4, _⟩ := ok_ints ok4
  exact (dboth_all w a0 m c0 l hn hr a4 n4 d4 sh hn4 hr4 ev).mono fun e w' h => ⟨h.1, h.2.below (Nat.le_refl _) (fun _ e => e.elim)⟩
end Go.Proofs.Ytgiojfihgdifbaa
