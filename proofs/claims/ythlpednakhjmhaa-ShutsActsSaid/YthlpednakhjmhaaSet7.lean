/- shuts.Set's calls where what comes out is known. -/
import Derived.Test.YthlpednakhjmhaaSet6
import Derived.Test.YthlpednakhjmhaaInts
import Derived.Deep.DeepCutAuto
import Derived.Deep.CutBlock
namespace Mile
open Go Go.RowKit
/-- From w on, whatever memory is made, and whatever becomes of block p: P. -/
def EvP (p : Nat) (P : World → Prop) (w : World) : Prop := ∀ W, Mod (fun k => k = p) w W → P W
theorem Mod.ofP {p : Nat} {a b c : World} (h : Mod (fun k => k = p) a b) (k : Mod (fun k => k = p) b c) : Mod (fun k => k = p) a c := h.trans k (fun _ _ e => e) (fun _ _ e => e)
theorem Mod.up {p : Nat} {a b : World} (h : Mod (fun _ => False) a b) : Mod (fun k => k = p) a b := h.mono (fun _ _ e => e.elim)
theorem EvP.now {p : Nat} {P : World → Prop} {w : World} (h : EvP p P w) : P w := h w (Mod.refl _ _)
theorem EvP.at {p : Nat} {P : World → Prop} {w W : World} (h : EvP p P w) (m : Mod (fun k => k = p) w W) : P W := h W m
theorem EvP.step {p : Nat} {P : World → Prop} {w w' : World} (h : EvP p P w) (m : Mod (fun k => k = p) w w') : EvP p P w' := fun W k => h W (m.ofP k)
theorem EvP.drew {p : Nat} {P : World → Prop} {w : World} (h : EvP p P w) : EvP p P (World.drew w) := h.step (Mod.drew _ _)
theorem EvP.and {p : Nat} {P Q : World → Prop} {w : World} (k : EvP p Q w) (h : EvP p P w) : EvP p (fun W => Q W ∧ P W) w := fun W m => ⟨k W m, h W m⟩
theorem EvP.mod (p : Nat) (w : World) : EvP p (Mod (fun k => k = p) w) w := fun _ m => m
theorem EvP.blk {p : Nat} {w : World} {b : Nat} {T : TypeId} {cs : List Value} (h : Blk w b T cs) (hp : b ≠ p) : EvP p (fun W => Blk W b T cs) w := fun _ m => h.keep m hp
end Mile
namespace Go.Proofs.Ythlpednakhjmhaa
open Go.RowKit Mile
set_option maxRecDepth 100000
theorem EvP.xr {p : Nat} {w : World} {a : Option Addr} {m c : Nat} {xs : List Int} (h : XR w p a m c xs) : EvP p (fun W => XR W p a m c xs) w := fun _ k => h.keep k
theorem srtI_eq {xs ys : List Int} (hp : ys.Perm xs) (hs : ys.Pairwise (· ≤ ·)) : srtI xs = ys :=
  List.Perm.eq_of_pairwise (le := (· ≤ ·)) (fun a b _ _ h1 h2 => by omega) (srtI_sorted xs) hs ((srtI_perm xs).trans hp.symm)
theorem xr_lit {w : World} {p : Nat} (hp : p < w.heap.size) (T : TypeId) (xs : List Int) (n g : Nat) (hg : g = w.heap.size) (hn : xs.length = n) (hb : n ≤ 1000000000) : XR (w.alloc (.cells (xs.map (Value.int .i64)).toArray T)) p (some ⟨g, 0, none⟩) n n xs :=
  ⟨Rd.lit T _ (0, 0) _ n hg (by simpa using hn) hb, hn, fun k hk e => by simp [Value.ownBlock] at hk; omega⟩
theorem xr_own {w : World} {p base : Nat} {v : Value} {n : Nat} {xs : List Int} (h : w.ownsRow base 3 1 v n (xs.map (Value.int .i64))) (hp : p < base) : ∃ a c, v = .slice a n c ∧ XR w p a n c xs := by
  obtain ⟨a, c, rfl⟩ := own_form h
  exact ⟨a, c, rfl, Rd.ofOwn h, by have := h.1; simpa using this, fun k hk e => by have := (h.lt k hk).1; omega⟩
theorem close_as (p n : Nat) (us : List Int) (w : World) (h : SO w p n us) (a : Option Addr) (m c : Nat) (xs : List Int) (hx : XR w p a m c xs) (hb : m ≤ 100000) (hin : hasB n xs = true) (u : Int) (h1 : 1 ≤ u) (h2 : u ≤ 1099511627776) (zs : List Int) (hz : srtI (turnL u us xs) = zs) (ln : Nat) (hln : zs.length = ln) (us' : List Int) (hu : putU u us xs = us') :
    Calls Try.prog 10 #[.pointer (some ⟨p, 0, none⟩), .int .i64 u, .slice a m c] w fun e w' => ∃ a c, e = .returned (.tuple #[.slice a ln c, .int .i64 0]) ∧ XR w' p a ln c zs ∧ SO w' p n us' ∧ Mod (fun k => k = p) w w' :=
  (close_ok p n us w h a m c xs hx hb hin u h1 h2).mono fun e w' ⟨v, he, ho, hs, hm⟩ => by
    have hl : (turnL u us xs).length = ln := by rw [← hln, ← hz, srtI_len]
    rw [hz, hl] at ho
    obtain ⟨a, c, rfl, hr⟩ := xr_own ho h.blk.lt
    exact ⟨a, c, he, hr, by rw [← hu]; exact hs, hm⟩
theorem open_as (p n : Nat) (us : List Int) (w : World) (h : SO w p n us) (a : Option Addr) (m c : Nat) (xs : List Int) (hx : XR w p a m c xs) (hb : m ≤ 100000) (hin : hasB n xs = true) (zs : List Int) (hz : srtI (turnL 0 us xs) = zs) (ln : Nat) (hln : zs.length = ln) (us' : List Int) (hu : putU 0 us xs = us') :
    Calls Try.prog 13 #[.pointer (some ⟨p, 0, none⟩), .slice a m c] w fun e w' => ∃ a c, e = .returned (.tuple #[.slice a ln c, .int .i64 0]) ∧ XR w' p a ln c zs ∧ SO w' p n us' ∧ Mod (fun k => k = p) w w' :=
  (open_ok p n us w h a m c xs hx hb hin).mono fun e w' ⟨v, he, ho, hs, hm⟩ => by
    have hl : (turnL 0 us xs).length = ln := by rw [← hln, ← hz, srtI_len]
    rw [hz, hl] at ho
    obtain ⟨a, c, rfl, hr⟩ := xr_own ho h.blk.lt
    exact ⟨a, c, he, hr, by rw [← hu]; exact hs, hm⟩
theorem lapse_as (p n : Nat) (us : List Int) (w : World) (h : SO w p n us) (t : Int) (ov : List Int) (hov : overL t (allK us n) = ov) (zs : List Int) (hz : srtI (turnL 0 us ov) = zs) (ln : Nat) (hln : zs.length = ln) (us' : List Int) (hu : putU 0 us ov = us') :
    Calls Try.prog 15 #[.pointer (some ⟨p, 0, none⟩), .int .i64 t] w fun e w' => ∃ a c, e = .returned (.slice a ln c) ∧ XR w' p a ln c zs ∧ SO w' p n us' ∧ Mod (fun k => k = p) w w' :=
  (lapse_any p n us w h t).mono fun e w' ⟨v, he, ho, hs, hm⟩ => by
    rw [hov] at ho hs
    have hl : (turnL 0 us ov).length = ln := by rw [← hln, ← hz, srtI_len]
    rw [hz, hl] at ho
    obtain ⟨a, c, rfl, hr⟩ := xr_own ho h.blk.lt
    exact ⟨a, c, he, hr, by rw [← hu]; exact hs, hm⟩
theorem ints_as (w : World) (a : Option Addr) (n c : Nat) (xs : List Int) (hn : xs.length = n) (hr : Rd w 1 (.slice a n c) n (xs.map (Value.int .i64)))
    (b : Option Addr) (m d : Nat) (ys : List Int) (hm : ys.length = m) (hs : Rd w 1 (.slice b m d) m (ys.map (Value.int .i64))) (hb : n ≤ 1000000000) (r : Bool) (hxy : decide (xs = ys) = r) :
    Calls Try.prog 12 #[.slice a n c, .slice b m d] w fun e w' => e = .returned (.bool r) ∧ Mod (fun _ => False) w w' :=
  (ints_any w a n c xs hn hr b m d ys hm hs hb).mono fun _ _ ⟨he, k, hk⟩ => ⟨by rw [he, hxy], by rw [hk]; exact Mod.drewN _ _ _⟩
end Go.Proofs.Ythlpednakhjmhaa
