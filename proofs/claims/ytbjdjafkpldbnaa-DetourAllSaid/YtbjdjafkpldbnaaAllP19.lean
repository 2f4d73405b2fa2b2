/- What closing edges does to the distance and to where both ends meet: plain. -/
import Derived.Test.YtbjdjafkpldbnaaMeetP19
namespace Go.Proofs.Ytbjdjafkpldbnaa
open Go.RowKit Mile
theorem clB_nil (x : Int) : clB [] x = false := by unfold clB; simp
section
variable {G : GD} {hm : May G} {k : Nat} {v : Int} {cl : List Bool} {dA dB dA' dB' : List Int}
theorem from_le (h : Fix (webFrom G hm (k : Int) cl) dA') (h0 : Fix (webFrom G hm (k : Int) []) dA) (e : Nat) (he : 0 ≤ dAt dA' e) : 0 ≤ dAt dA e ∧ dAt dA e ≤ dAt dA' e :=
  h.le h0 rfl (fun _ h => h) (fun e b h => ⟨⟨h.1, clB_nil _⟩, rfl⟩) _ e he (Int.le_of_eq (Int.toNat_of_nonneg he).symm)
theorem to_le (h : Fix (webTo G hm v cl) dB') (h0 : Fix (webTo G hm v []) dB) (e : Nat) (he : 0 ≤ dAt dB' e) : 0 ≤ dAt dB e ∧ dAt dB e ≤ dAt dB' e :=
  h.le h0 rfl (fun _ h => h) (fun e b h => ⟨⟨h.1, clB_nil _⟩, rfl⟩) _ e he (Int.le_of_eq (Int.toNat_of_nonneg he).symm)
/-- Closed is all that is on no shortest walk. -/
def OffAll (G : GD) (cl : List Bool) (dA dB : List Int) (n : Int) : Prop := ∀ e : Nat, e < G.E.length → okM dA dB n e → clB cl (e : Int) = false
theorem on_to (hk : k < G.E.length) (hA : Fix (webFrom G hm (k : Int) []) dA) (hB : Fix (webTo G hm v []) dB) (hB' : Fix (webTo G hm v cl) dB') (hcl : OffAll G cl dA dB (dAt dB k)) : ∀ (n : Nat) (e : Nat), dAt dB e ≤ n → e < G.E.length → okM dA dB (dAt dB k) e → 0 ≤ dAt dB' e ∧ dAt dB' e ≤ dAt dB e := by
  have hst : ∀ e, (webFrom G hm (k : Int) []).st e ↔ e = k := fun e => by show (e : Int) = (k : Int) ↔ e = k; omega
  have hbid := bid_of G hm k v [] hA hB
  intro n
  induction n using Nat.strongRecOn with
  | ind n ih =>
    intro e hn he hok
    obtain ⟨o1, o2, o3⟩ := hok
    rcases hB.why e o2 with ⟨h1, h2⟩ | ⟨b, h1, h2, h3⟩
    · have := hB'.st e h1 he
      omega
    · have hw := (webTo G hm v []).one e b h1
      have hr := (hbid.rb e b h1).1
      have hs := hA.shut b e hr o1
      have hwt : (webFrom G hm (k : Int) []).wt b e = (webTo G hm v []).wt e b := rfl
      rw [hwt] at hs
      have hnl := hbid.no_less hst hk (dAt dA b).toNat b (by omega) hs.1 h2
      have hokb : okM dA dB (dAt dB k) b := ⟨hs.1, h2, by omega⟩
      have hbE : b < G.E.length := hw.2.2.2
      have hi := ih (n - 1) (by omega) b (by omega) hbE hokb
      have hs2 := hB'.shut e b ⟨h1.1, hcl b hbE hokb⟩ hi.1
      have hwt2 : (webTo G hm v cl).wt e b = (webTo G hm v []).wt e b := rfl
      rw [hwt2] at hs2
      omega
theorem on_from (hk : k < G.E.length) (hA : Fix (webFrom G hm (k : Int) []) dA) (hB : Fix (webTo G hm v []) dB) (hA' : Fix (webFrom G hm (k : Int) cl) dA') (hcl : OffAll G cl dA dB (dAt dB k)) : ∀ (n : Nat) (e : Nat), dAt dA e ≤ n → e < G.E.length → okM dA dB (dAt dB k) e → 0 ≤ dAt dA' e ∧ dAt dA' e ≤ dAt dA e := by
  have hst : ∀ e, (webFrom G hm (k : Int) []).st e ↔ e = k := fun e => by show (e : Int) = (k : Int) ↔ e = k; omega
  have hbid := bid_of G hm k v [] hA hB
  intro n
  induction n using Nat.strongRecOn with
  | ind n ih =>
    intro e hn he hok
    have hcle := hcl e he hok
    obtain ⟨o1, o2, o3⟩ := hok
    rcases hA.why e o1 with ⟨h1, h2⟩ | ⟨b, h1, h2, h3⟩
    · have := hA'.st e h1 he
      omega
    · have hw := (webFrom G hm (k : Int) []).one e b h1
      have hr := (hbid.ra e b h1).1
      have hs := hB.shut b e hr o2
      have hwt : (webTo G hm v []).wt b e = (webFrom G hm (k : Int) []).wt e b := rfl
      rw [hwt] at hs
      have hnl := hbid.no_less hst hk (dAt dA b).toNat b (by omega) h2 hs.1
      have hokb : okM dA dB (dAt dB k) b := ⟨h2, hs.1, by omega⟩
      have hbE : b < G.E.length := hw.2.2.2
      have hi := ih (n - 1) (by omega) b (by omega) hbE hokb
      have hs2 := hA'.shut e b ⟨h1.1, hcle⟩ hi.1
      have hwt2 : (webFrom G hm (k : Int) cl).wt e b = (webFrom G hm (k : Int) []).wt e b := rfl
      rw [hwt2] at hs2
      omega
end
/-- Closing what is on no shortest walk changes nothing. -/
theorem all_facts (G : GD) (hm : May G) (k : Nat) (hk : k < G.E.length) (v : Int) (hv : 0 ≤ v ∧ v < (G.N.length : Int)) (cl : List Bool) {dA dB : List Int} (hA : Fix (webFrom G hm (k : Int) []) dA) (hB : Fix (webTo G hm v []) dB) (h0 : 0 ≤ dAt dB k) (hcl : OffAll G cl dA dB (dAt dB k)) {x' y y' : Int} (hy : Mts G hm v [] (k : Int) y) (hx' : Btw G hm v cl (k : Int) x') (hy' : Mts G hm v cl (k : Int) y') : x' = dAt dB k ∧ y' = y := by
  have hin : (0 ≤ v ∧ v < (G.N.length : Int)) ∧ (0 ≤ (k : Int) ∧ (k : Int) < (G.E.length : Int)) := ⟨hv, by omega, by omega⟩
  have hst : ∀ e, (webFrom G hm (k : Int) []).st e ↔ e = k := fun e => by show (e : Int) = (k : Int) ↔ e = k; omega
  rcases hy' with ⟨_, dA', dB', hA', hB', hM'⟩ | ⟨h, _⟩
  case inr => exact absurd hin h
  rcases hy with ⟨_, dA2, dB2, hA2, hB2, hM⟩ | ⟨h, _⟩
  case inr => exact absurd hin h
  rcases hx' with ⟨_, d, hd, hxd⟩ | ⟨h, _⟩
  case inr => exact absurd hin h
  obtain rfl := hA.uniq hA2
  obtain rfl := hB.uniq hB2
  obtain rfl := hB'.uniq hd
  have hM : Mee dA dB (dAt dB k) G.E.length y := hM
  have hM' : Mee dA' dB' (dAt dB' k) G.E.length y' := hM'
  have hA0 := hA.st k ((hst k).2 rfl) hk
  have hokk : okM dA dB (dAt dB k) k := ⟨by omega, by omega, by omega⟩
  have h1 := on_to hk hA hB hB' hcl (dAt dB k).toNat k (by omega) hk hokk
  have h2 := to_le hB' hB k h1.1
  have hxe : dAt dB' k = dAt dB k := by omega
  refine ⟨by rw [hxd]; exact hxe, ?_⟩
  rw [hxe] at hM'
  have hbid := bid_of G hm k v [] hA hB
  have hiff : ∀ e, e < G.E.length → (okM dA' dB' (dAt dB k) e ↔ okM dA dB (dAt dB k) e) := fun e he => by
    refine ⟨fun h => ?_, fun h => ?_⟩
    · obtain ⟨o1, o2, o3⟩ := h
      have a1 := from_le hA' hA e o1
      have a2 := to_le hB' hB e o2
      have a3 := hbid.no_less hst hk (dAt dA e).toNat e (by omega) a1.1 a2.1
      exact ⟨a1.1, a2.1, by omega⟩
    · have b1 := on_from hk hA hB hA' hcl (dAt dA e).toNat e (by have := h.1; omega) he h
      have b2 := on_to hk hA hB hB' hcl (dAt dB e).toNat e (by have := h.2.1; omega) he h
      have a1 := from_le hA' hA e b1.1
      have a2 := to_le hB' hB e b2.1
      obtain ⟨o1, o2, o3⟩ := h
      exact ⟨b1.1, b2.1, by omega⟩
  refine Mee.uniq (dA := dA) (dB := dB) (n := dAt dB k) (m := G.E.length) ?_ hM
  rcases hM' with ⟨i, i1, i2, i3, i4⟩ | ⟨i1, i2⟩
  · exact .inl ⟨i, i1, i2, (hiff i i1).1 i3, fun j hj hok => i4 j hj ((hiff j (by omega)).2 hok)⟩
  · exact .inr ⟨i1, fun i hi hok => i2 i hi ((hiff i hi).2 hok)⟩
/-- Closing where both ends meet: another one, or farther, or none. -/
theorem shut_facts (G : GD) (hm : May G) (k : Nat) (hk : k < G.E.length) (v : Int) (hv : 0 ≤ v ∧ v < (G.N.length : Int)) (cl : List Bool) {dB : List Int} (hB : Fix (webTo G hm v []) dB) {i : Nat} (hik : i ≠ k) (hcl : clB cl (i : Int) = true) {x y : Int} (hx : Btw G hm v cl (k : Int) x) (hy : Mts G hm v cl (k : Int) y) :
    -1 ≤ x ∧ (x = -1 → y = -1) ∧ (x ≠ -1 → dAt dB k ≤ x ∧ y ≠ -1 ∧ y ≠ (i : Int)) := by
  obtain ⟨dA', dB', hA', hB', hxk, hxl, h1, h2⟩ := meets_facts G hm k hk v hv cl hx hy
  refine ⟨hxl, h1, fun hn => ?_⟩
  obtain ⟨j, hj, hyj, hok, _⟩ := h2 hn
  have h3 := to_le hB' hB k (by omega)
  refine ⟨by omega, by omega, fun he => ?_⟩
  have hji : j = i := by omega
  subst hji
  rcases hA'.why j hok.1 with ⟨g1, _⟩ | ⟨b, g1, _, _⟩
  · have g2 : (j : Int) = (k : Int) := g1
    omega
  · rw [g1.2] at hcl; cases hcl
end Go.Proofs.Ytbjdjafkpldbnaa
