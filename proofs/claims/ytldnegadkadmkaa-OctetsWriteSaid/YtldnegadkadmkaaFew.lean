/- The parts of law OctetsWrite as data; its own look at how much there is (few). -/
import Derived.Test.YtldnegadkadmkaaRefW
namespace Go.Proofs.Ytldnegadkadmkaa
open Go.RowKit Mile

abbrev PartD := Int × Int × (Value × List Int) × (Value × List Int) × Unit
def encPart : Enc PartD := encPair (encInt .i64) (encPair (encInt .i64) (encPair (encSlice (encInt .i64)) (encPair (encSlice (encInt .u8)) encUnit)))

theorem opens_part : Opens Try.prog 34 encPart :=
  opens_struct Try.underlying34 (by kernel_rfl) (opens_cons rfl (by kernel_rfl) (opens_int Try.underlying3) (opens_cons rfl (by kernel_rfl) (opens_int Try.underlying3)
    (opens_cons rfl (by kernel_rfl) (opens_slice Try.underlying32 (by kernel_rfl) (opens_int Try.underlying3) (by decide))
      (opens_cons rfl (by kernel_rfl) (opens_slice Try.underlying26 (by kernel_rfl) (opens_int Try.underlying5) (by decide)) (opens_nil _ _)))))
theorem opens_parts : Opens Try.prog 22 (encSlice encPart) := opens_slice Try.underlying22 (by kernel_rfl) opens_part (by decide)

theorem part_at (L : List PartD) (j : Nat) (h : j < L.length) (i : Nat) (hi : i < 4) : (L.flatMap encPart.img)[j * 4 + i]? = [Value.int .i64 L[j].1, Value.int .i64 L[j].2.1, L[j].2.2.1.1, L[j].2.2.2.1.1][i]? := by
  induction L generalizing j with
  | nil => simp at h
  | cons y r ih =>
    rw [List.flatMap_cons]
    have hy : encPart.img y = [Value.int .i64 y.1, Value.int .i64 y.2.1, y.2.2.1.1, y.2.2.2.1.1] := rfl
    cases j with
    | zero => rw [List.getElem?_append_left (by rw [hy]; simp; omega), hy]; simp
    | succ j =>
      have h' : j < r.length := by simpa using h
      rw [List.getElem?_append_right (by rw [hy]; simp; omega), hy]
      simp only [List.length_cons, List.length_nil, List.getElem_cons_succ]
      rw [show (j + 1) * 4 + i - (0 + 1 + 1 + 1 + 1) = j * 4 + i by omega]
      exact ih j h'

theorem ints_img (k : IntKind) (xs : List Int) : xs.flatMap (encInt k).img = xs.map (Value.int k) := by
  induction xs with
  | nil => rfl
  | cons x r ih => rw [List.flatMap_cons, ih]; rfl

/-- A part's two slices, as the walk wants them. -/
structure PartOk (w : World) (x : PartD) : Prop where
  n : ∃ a c, x.2.2.1.1 = .slice a x.2.2.1.2.length c ∧ Rd w 1 (.slice a x.2.2.1.2.length c) x.2.2.1.2.length (x.2.2.1.2.map (Value.int .i64))
  b : ∃ a c, x.2.2.2.1.1 = .slice a x.2.2.2.1.2.length c ∧ Rd w 1 (.slice a x.2.2.2.1.2.length c) x.2.2.2.1.2.length (x.2.2.2.1.2.map (Value.int .u8))

theorem PartOk.of {w : World} {x : PartD} (h : encPart.ok w x) : PartOk w x := by
  obtain ⟨_, _, ⟨h1, _⟩, ⟨h2, _⟩, _⟩ := h
  rw [ints_img] at h1 h2
  refine ⟨?_, ?_⟩
  · obtain ⟨_, a, c, e, _⟩ := id h1
    exact ⟨a, c, e, by rw [← e]; exact h1⟩
  · obtain ⟨_, a, c, e, _⟩ := id h2
    exact ⟨a, c, e, by rw [← e]; exact h2⟩

theorem info_part : ∃ i, Try.prog.info? 34 = some i ∧ i.size = 4 := by
  have h : (Try.prog.info? 34).map (fun i => i.size) = some 4 := by kernel_rfl
  cases e : Try.prog.info? 34 with
  | none => rw [e] at h; cases h
  | some i => rw [e] at h; exact ⟨i, rfl, by simpa using h⟩

def FewPost (w : World) (n : Nat) (l : List PartD) (e : Ending) (w' : World) : Prop := ∃ b, e = .returned (.bool b) ∧ w = w' ∧ (b = true → n ≤ 30 ∧ ∀ x ∈ l, x.2.2.1.2.length ≤ 20 ∧ x.2.2.2.1.2.length ≤ 60)

set_option maxHeartbeats 1000000 in
theorem few_any (w : World) (a : Option Addr) (n c : Nat) (l : List PartD) (hn : n = l.length) (hr : Rd w 4 (.slice a n c) n (l.flatMap encPart.img)) (hok : ∀ x ∈ l, PartOk w x) :
    Calls Try.prog 7 #[.slice a n c] w (FewPost w n l) := by
  obtain ⟨i34, hi34, hs34⟩ := info_part
  have HN := Lib.hid hn
  clear hn
  go_enter Try.func7, Try.ntmps7
  go_wp2
  go_loop [3] (fun i => ∃ k : Nat, k ≤ n ∧ k ≤ 40 ∧ i = .int .i64 k ∧ ∀ (t : Nat) (h : t < l.length), t < k → l[t].2.2.1.2.length ≤ 20 ∧ l[t].2.2.2.1.2.length ≤ 60) (fun i => 40 - (intOf i).toNat)
  case atStart => exact ⟨0, Nat.zero_le _, by omega, rfl, fun t _ h => by omega⟩
  case round =>
    obtain ⟨k, hk, hk40, rfl, hall⟩ := hrel
    have HA := Lib.hid hall
    clear hall
    by_cases hlt : k < n ∧ k < 40
    · obtain ⟨h1, h2⟩ := hlt
      have hkl : k < l.length := by rw [← HN.out]; exact h1
      obtain ⟨pb, po, hpl, _⟩ := hr.place h1
      have hix := fun wx => run_indexS (P := Try.prog) wx 22 34 i34 4 Try.underlying22 hi34 hs34 a n c k h1 (hr.some_ (by omega))
      rw [hpl] at hix
      obtain ⟨x, hx⟩ : ∃ x, l[k] = x := ⟨_, rfl⟩
      obtain ⟨⟨an, cn, en, _⟩, ⟨ab, cb, eb, _⟩⟩ := hok x (by rw [← hx]; exact List.getElem_mem hkl)
      have c2 : w.cell? ⟨pb, po + 2, none⟩ = some (.slice an x.2.2.1.2.length cn) := by
        rw [← en]; exact hr.elemN hpl 2 (by rw [part_at l k hkl 2 (by omega), hx]; rfl)
      have c3 : w.cell? ⟨pb, po + 3, none⟩ = some (.slice ab x.2.2.2.1.2.length cb) := by
        rw [← eb]; exact hr.elemN hpl 3 (by rw [part_at l k hkl 3 (by omega), hx]; rfl)
      obtain ⟨nn, hnn⟩ : ∃ nn, x.2.2.1.2.length = nn := ⟨_, rfl⟩
      obtain ⟨nb, hnb⟩ : ∃ nb, x.2.2.2.1.2.length = nb := ⟨_, rfl⟩
      rw [hnn] at c2
      rw [hnb] at c3
      have HX := Lib.hid hx
      have HNN := Lib.hid hnn
      have HNB := Lib.hid hnb
      clear hx hnn hnb hpl en eb
      by_cases hq : nn ≤ 20 ∧ nb ≤ 60
      · obtain ⟨g1, g2⟩ := hq
        have g1' : (nn : Int) ≤ 20 := by omega
        have g2' : (nb : Int) ≤ 60 := by omega
        go_wp2
        go_round
        case rel =>
          refine ⟨k + 1, by omega, by omega, by go_num, fun t ht htk => ?_⟩
          by_cases e : t < k
          · exact HA.out t ht e
          · obtain rfl : t = k := by omega
            rw [HX.out, HNN.out, HNB.out]
            exact ⟨g1, g2⟩
        case measure => simp [intOf]; omega
      · by_cases g1 : nn ≤ 20
        · have g1' : (nn : Int) ≤ 20 := by omega
          have g2' : (60 : Int) < (nb : Int) := by omega
          go_wp2
          go_ret
          exact ⟨false, rfl, rfl, fun h => by cases h⟩
        · have g1' : (20 : Int) < (nn : Int) := by omega
          go_wp2
          go_ret
          exact ⟨false, rfl, rfl, fun h => by cases h⟩
    · by_cases h1 : k < n
      · have h40 : k = 40 := by omega
        subst h40
        have hbig : ¬ ((n : Int) ≤ 30) := by omega
        go_wp2
        go_ret
        exact ⟨_, rfl, rfl, fun h => by simp at h⟩
      · have hkn : k = n := by omega
        subst hkn
        go_wp2
        go_ret
        refine ⟨_, rfl, rfl, fun h => ?_⟩
        have h30 : k ≤ 30 := by simp at h; omega
        refine ⟨h30, fun x hx => ?_⟩
        obtain ⟨t, ht, rfl⟩ := List.getElem_of_mem hx
        exact HA.out t ht (by rw [HN.out]; exact ht)

end Go.Proofs.Ytldnegadkadmkaa
