/- What SenderAgain speaks of: lists. -/
import Derived.Test.YtopldodfkcgmhaaSdW
namespace Go.Proofs.Ytopldodfkcgmhaa
open Go.RowKit Mile Go.Maps
set_option maxRecDepth 100000
def idsL (A n : Nat) : List Int := (List.range n).map fun i => ((A + i : Nat) : Int)
theorem idsL_len (A n : Nat) : (idsL A n).length = n := by unfold idsL; simp
theorem idsL_at (A n i : Nat) (h : i < (idsL A n).length) : (idsL A n)[i] = ((A + i : Nat) : Int) := by unfold idsL; simp
def BB (A n : Nat) : List (List Int) := (List.range n).map fun i => [((A + i : Nat) : Int)]
theorem BB_len (A n : Nat) : (BB A n).length = n := by unfold BB; simp
theorem BB_at (A n i : Nat) (h : i < n) : (BB A n)[i]? = some [((A + i : Nat) : Int)] := by unfold BB; simp [h]
theorem BB_snoc (n : Nat) : BB 0 (n + 1) = BB 0 n ++ [[(n : Int)]] := by unfold BB; rw [List.range_succ, List.map_append]; simp
theorem BB_drop (A n k : Nat) (h : k ≤ n) : (BB A n).drop k = BB (A + k) (n - k) := by
  refine List.ext_getElem? fun i => ?_
  rw [List.getElem?_drop]
  by_cases hi : k + i < n
  · rw [BB_at A n (k + i) hi, BB_at (A + k) (n - k) i (by omega)]; rw [show A + (k + i) = A + k + i by omega]
  · rw [List.getElem?_eq_none (by rw [BB_len]; omega), List.getElem?_eq_none (by rw [BB_len]; omega)]
theorem LL_due (A n : Nat) (d : Int) (c : Nat) : dueE (LL A n d c) d = LL A n d c := by
  unfold dueE
  rw [List.filter_eq_self]
  intro e he
  obtain ⟨i, _, rfl⟩ := mem_LL he
  simp
theorem LL_ids (A n : Nat) (d : Int) (c : Nat) : (LL A n d c).map (·.id) = idsL A n := by unfold LL idsL; rw [List.map_map]; rfl
theorem LL_zero (A : Nat) (d d' : Int) (c c' : Nat) : LL A 0 d c = LL A 0 d' c' := rfl
/-- There are tries left, or nothing is under way. -/
theorem LL_goes {A n : Nat} {d : Int} {c R : Nat} (h : n = 0 ∨ c < R) : againE R (dueE (LL A n d c) d) = idsL A n ∧ overE R (dueE (LL A n d c) d) = [] ∧ (LL A n d c).filterMap (dueW 4 4 R d) = LL A n (d + 4) (c + 1) := by
  rw [LL_due]
  rcases h with rfl | h
  · exact ⟨rfl, rfl, rfl⟩
  · refine ⟨?_, ?_, ?_⟩
    · unfold againE
      rw [List.filter_eq_self.2 (fun e he => by obtain ⟨i, _, rfl⟩ := mem_LL he; simpa using h), LL_ids]
    · unfold overE
      rw [List.filter_eq_nil_iff.2 (fun e he => by obtain ⟨i, _, rfl⟩ := mem_LL he; simpa using h)]; rfl
    · have hw : waitN 4 4 (c + 1) = 4 := by have h1 := waitN_le 4 4 (c + 1); have h2 := waitN_ge (Nat.le_refl 4) (c + 1); omega
      have hone : ∀ xs : List Nat, (xs.map fun i => (⟨((A + i : Nat) : Int), d, c⟩ : Wt)).filterMap (dueW 4 4 R d) = xs.map fun i => (⟨((A + i : Nat) : Int), d + 4, c + 1⟩ : Wt) := by
        intro xs
        induction xs with
        | nil => rfl
        | cons i t ih =>
          rw [List.map_cons, List.map_cons, List.filterMap_cons_some (b := ⟨((A + i : Nat) : Int), d + 4, c + 1⟩) (by unfold dueW; rw [if_neg (by simp), if_pos h, hw]; rfl), ih]
      exact hone _
theorem LL_ends {A n : Nat} {d : Int} {c R : Nat} (h : ¬ c < R) : againE R (dueE (LL A n d c) d) = [] ∧ overE R (dueE (LL A n d c) d) = idsL A n ∧ (LL A n d c).filterMap (dueW 4 4 R d) = [] := by
  rw [LL_due]
  refine ⟨?_, ?_, ?_⟩
  · unfold againE
    rw [List.filter_eq_nil_iff.2 (fun e he => by obtain ⟨i, _, rfl⟩ := mem_LL he; simpa using h)]; rfl
  · unfold overE
    rw [List.filter_eq_self.2 (fun e he => by obtain ⟨i, _, rfl⟩ := mem_LL he; simpa using h), LL_ids]
  · rw [List.filterMap_eq_nil_iff]
    intro e he
    obtain ⟨i, _, rfl⟩ := mem_LL he
    unfold dueW
    rw [if_neg (by simp), if_neg h]
/-- The state of SenderAgain. -/
structure SG (w0 w : World) (p tp A n T : Nat) (d : Int) (c : Nat) : Prop where
  s : S1 (fun _ => False) w0 w p tp 16 A false 4 4 T (LL A n d c) (BB A n)
section
variable {w0 w : World} {p tp A n T : Nat} {d : Int} {c : Nat}
theorem SG.mod (h : SG w0 w p tp A n T d c) : Mod (fun _ => False) w0 w := h.s.mod
theorem SG.keep {w' : World} (h : SG w0 w p tp A n T d c) (hm : Mod (fun _ => False) w w') : SG w0 w' p tp A n T d c := ⟨h.s.keep hm⟩
theorem sg_send {V : World} (h : SG w0 w p tp 0 n T 4 0) (hV : Mod (fun _ => False) w V) (hn : n < 16) (bv : Value) (hrd : Rd V 1 bv 1 ([(n : Int)].map (Value.int .u8))) :
    Calls Try.prog 13 #[.pointer (some ⟨p, 0, none⟩), .int .i64 0, bv] V fun e w' => e = .returned (.tuple #[.int .i64 (n : Int), .int .i64 0]) ∧ SG w0 w' p tp 0 (n + 1) T 4 0 := by
  refine (s1_send h.s hV (by rw [BB_len]; exact hn) (by omega) (by rw [LL_len]; omega) 0 (by omega) [(n : Int)] 1 rfl bv hrd (by omega) (n : Int) (by rw [BB_len, Nat.zero_add])).mono ?_
  rintro e w' ⟨he, hk, _⟩
  refine ⟨he, ⟨?_⟩⟩
  have h1 := hk w' (Mod.refl _ _)
  have h2 := LL_put 0 n 4 0
  rw [Nat.zero_add] at h2
  rw [BB_snoc, ← h2]
  exact h1
theorem sg_acked (h : SG w0 w p tp A n T d c) (hA : A ≤ 1000) (k : Nat) (hk : k ≤ n) (q : Int) (hq : q = ((A + k : Nat) : Int)) : Calls Try.prog 15 #[.pointer (some ⟨p, 0, none⟩), .int .i64 q] w fun e w' => (∃ r, e = .returned (.int .i64 r)) ∧ SG w0 w' p tp (A + k) (n - k) T d c := by
  by_cases h0 : k = 0
  · subst h0
    refine (s1_acked_no h.s (by omega) q (.inl (by omega))).mono ?_
    rintro e w' ⟨he, hs⟩
    exact ⟨⟨_, he⟩, ⟨hs⟩⟩
  · refine (s1_acked h.s (by omega) k (by omega) (by rw [BB_len]; exact hk) q hq).mono ?_
    rintro e w' ⟨he, hs, _⟩
    rw [LL_stop A n d c k hk, BB_drop A n k hk] at hs
    exact ⟨⟨_, he⟩, ⟨hs⟩⟩
theorem sg_again (h : SG w0 w p tp A n T d c) (hn : n ≤ 16) (hd : 0 ≤ d ∧ d ≤ 1048576) (hc : n = 0 ∨ c < T) : Calls Try.prog 17 #[.pointer (some ⟨p, 0, none⟩), .int .i64 d] w fun e w' => (∃ a1 c1, e = .returned (.tuple #[.slice a1 n c1, .int .i64 0]) ∧ Rd w' 1 (.slice a1 n c1) n ((idsL A n).map (Value.int .i64))) ∧ SG w0 w' p tp A n T (d + 4) (c + 1) := by
  obtain ⟨g1, g2, g3⟩ := LL_goes (A := A) (d := d) hc
  refine (s1_again h.s (by rw [LL_len]; omega) d hd _ _ _ g1 g2 g3).mono ?_
  rintro e w' ⟨he, hs, _⟩
  rw [if_pos rfl] at he
  obtain ⟨a1, c1, he, hr⟩ := he
  rw [idsL_len] at he hr
  exact ⟨⟨a1, c1, he, hr⟩, ⟨hs⟩⟩
theorem sg_over (h : SG w0 w p tp A n T d c) (hn : n ≤ 16) (h0 : 0 < n) (hd : 0 ≤ d ∧ d ≤ 1048576) (hc : ¬ c < T) : Calls Try.prog 17 #[.pointer (some ⟨p, 0, none⟩), .int .i64 d] w fun e w' => e = .returned (.tuple #[.slice none 0 0, .int .i64 6]) ∧ S1 (fun _ => False) w0 w' p tp 16 A true 4 4 T [] (BB A n) := by
  obtain ⟨g1, g2, g3⟩ := LL_ends (A := A) (n := n) (d := d) hc
  have hne : idsL A n ≠ [] := fun e => by have := idsL_len A n; rw [e] at this; simp at this; omega
  refine (s1_again h.s (by rw [LL_len]; omega) d hd _ _ _ g1 g2 g3).mono ?_
  rintro e w' ⟨he, hs, _⟩
  rw [if_neg hne] at he
  rw [decide_eq_true hne] at hs
  exact ⟨he, hs⟩
theorem sg_body (h : SG w0 w p tp A n T d c) (hA : A ≤ 1000) (k : Nat) (hk : k < n) (q : Int) (hq : q = (A : Int) + (k : Int)) : Calls Try.prog 20 #[.pointer (some ⟨p, 0, none⟩), .int .i64 q] w fun e w' => ∃ a' c', e = .returned (.tuple #[.slice a' 1 c', .bool true]) ∧ Rd w' 1 (.slice a' 1 c') 1 ([q].map (Value.int .u8)) ∧ SG w0 w' p tp A n T d c ∧ Mod (fun _ => False) w w' := by
  refine (s1_body_at h.s (by omega) k _ (BB_at A n k hk) (by simp) q hq).mono ?_
  rintro e w' ⟨a', c', he, hr, _, hs, hm⟩
  refine ⟨a', c', he, ?_, ⟨hs⟩, hm⟩
  have hqq : ((A + k : Nat) : Int) = q := by omega
  rw [hqq] at hr
  exact hr
theorem sg_room (h : SG w0 w p tp A n T d c) (r : Int) (hr : ((16 - n : Nat) : Int) = r) : Calls Try.prog 22 #[.pointer (some ⟨p, 0, none⟩)] w fun e w' => e = .returned (.int .i64 r) ∧ SG w0 w' p tp A n T d c := by
  refine (s1_room h.s r (by rw [BB_len]; simpa using hr)).mono ?_
  rintro e w' ⟨he, hs, _⟩
  exact ⟨he, ⟨hs⟩⟩
end
end Go.Proofs.Ytopldodfkcgmhaa
