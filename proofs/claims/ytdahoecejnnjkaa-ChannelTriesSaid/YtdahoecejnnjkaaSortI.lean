/- slices.Sort of a row of numbers of the call's own, by contract (the shelf's). -/
import Derived.Test.YtdahoecejnnjkaaRows
import Derived.Test.YtdahoecejnnjkaaBase2
import Derived.Test.YtdahoecejnnjkaaShelf
import Derived.Sort.OwnSortedInts
namespace Go.Proofs.Ytdahoecejnnjkaa
open Go.RowKit Mile
set_option maxRecDepth 100000
def srtI (zs : List Int) : List Int := zs.mergeSort fun x y => decide (x ≤ y)
theorem srtI_len (zs : List Int) : (srtI zs).length = zs.length := List.length_mergeSort zs
theorem srtI_perm (zs : List Int) : (srtI zs).Perm zs := List.mergeSort_perm zs _
theorem srtI_sorted (zs : List Int) : (srtI zs).Pairwise (· ≤ ·) :=
  (List.pairwise_mergeSort (fun a b c h1 h2 => by simp at h1 h2 ⊢; omega) (fun a b => by simp; omega) zs).imp (fun h => by simpa using h)
theorem sort_own {w : World} {base : Nat} {v : Value} {n : Nat} {zs : List Int} (h : w.ownsRow base 3 1 v n (zs.map (Value.int .i64))) (hsz : n ≤ 1000000000) :
    Calls Try.prog 65 #[v] w fun e w' => e = .returned (.tuple #[]) ∧ w'.ownsRow base 3 1 v n ((srtI zs).map (Value.int .i64)) ∧ Mod (fun k => v.ownBlock = some k) w w' := by
  have hl : zs.length = n := by have := h.1; simpa using this
  rcases h.2 with ⟨rfl, rfl⟩ | ⟨g, cap, cur, rfl, hb, hg, hn, hc, hs, ht⟩
  · refine (Try.slices_Sort_int_none none 0 w).mono ?_
    rintro e w' ⟨rfl, rfl⟩
    obtain rfl : zs = [] := List.eq_nil_of_length_eq_zero hl
    exact ⟨rfl, by rw [show srtI [] = [] from List.eq_nil_of_length_eq_zero (by rw [srtI_len]; rfl)]; exact h, Mod.refl _ _⟩
  · subst hl
    have ht' : cur.toList.take zs.length = zs.map (Value.int .i64) := by rw [Nat.mul_one] at ht; exact ht
    refine (Try.slices_Sort_int g 0 cap zs w (holds_of_blockI hg ht') (lt_of_block hg) (by omega)).mono ?_
    rintro e w' ⟨rfl, k, os, rfl⟩
    have e1 := ownsRow_sortedI (n := k) (os := os) (ss := zs) (ts := srtI zs) (srtI_len zs) hb hg hn hc hs
    exact ⟨rfl, e1, (Mod.ofGrown (grownBy_sortedI _)).mono (fun k _ hk => by simpa [Value.ownBlock] using hk)⟩
end Go.Proofs.Ytdahoecejnnjkaa
