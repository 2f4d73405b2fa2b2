/- Heaps as sorted lists: the order of the pushes is nothing; what was popped, pushed again, is as before. -/
import Derived.Test.YtheahhcbmknaoaaLowers4
namespace Mile
open Go Go.RowKit

def pushAll (S : List It) (L : List It) : List It := L.foldl (fun S x => (pushS S x.1 x.2).2) S
theorem pushAll_ok : ∀ (L : List It) {S : List It}, Srt S → Ids S → Srt (pushAll S L) ∧ Ids (pushAll S L)
  | [], _, hs, hi => ⟨hs, hi⟩
  | x :: L, _, hs, hi => pushAll_ok L (pushS_ok hs hi x.1 x.2).1 (pushS_ok hs hi x.1 x.2).2
/-- What a push does to the keys. -/
def updK (f : Int → Option Int) (x : It) : Int → Option Int := fun k => if k = x.1 then some (match f k with | none => x.2 | some c => if x.2 < c then x.2 else c) else f k
theorem keyS_upd {S : List It} (hi : Ids S) (x : It) : keyS (pushS S x.1 x.2).2 = updK (keyS S) x := by
  funext k
  rw [keyS_push hi, pushS_fst]
  unfold updK
  by_cases e : k = x.1
  · subst e
    rw [if_pos rfl, if_pos rfl]
    cases hk : keyS S x.1 with
    | none => simp
    | some c => by_cases h : x.2 < c <;> simp [h]
  · rw [if_neg e, if_neg e]
theorem updK_comm (f : Int → Option Int) (x y : It) : updK (updK f x) y = updK (updK f y) x := by
  funext k
  unfold updK
  by_cases e1 : k = x.1
  · by_cases e2 : k = y.1
    · rw [if_pos e2, if_pos e1, if_pos e1, if_pos e2]
      congr 1
      cases f k with
      | none => simp only; split <;> split <;> omega
      | some c => simp only; split <;> split <;> (try split) <;> (try split) <;> omega
    · rw [if_neg e2, if_pos e1, if_pos e1, if_neg e2]
  · by_cases e2 : k = y.1
    · rw [if_pos e2, if_neg e1, if_neg e1, if_pos e2]
    · rw [if_neg e2, if_neg e1, if_neg e1, if_neg e2]
theorem keyS_all : ∀ (L : List It) {S : List It}, Srt S → Ids S → keyS (pushAll S L) = L.foldl updK (keyS S)
  | [], _, _, _ => rfl
  | x :: L, S, hs, hi => by
    have := keyS_all L (pushS_ok hs hi x.1 x.2).1 (pushS_ok hs hi x.1 x.2).2
    rw [keyS_upd hi] at this
    exact this
theorem foldl_updK {L M : List It} (h : L.Perm M) : ∀ f, L.foldl updK f = M.foldl updK f := by
  induction h with
  | nil => intro f; rfl
  | cons x _ ih => intro f; exact ih _
  | swap x y l => intro f; simp only [List.foldl_cons]; rw [updK_comm]
  | trans _ _ ih1 ih2 => intro f; rw [ih1, ih2]
theorem mem_of_keys {S T : List It} (hT : Ids T) (hS : Ids S) (h : keyS S = keyS T) : ∀ x ∈ S, x ∈ T := fun x hx => by
  have := keyS_some hS hx rfl
  rw [h] at this
  exact keyS_inv this
theorem srt_unique : ∀ {S T : List It}, Srt S → Srt T → Ids S → Ids T → (∀ x, x ∈ S ↔ x ∈ T) → S = T
  | [], [], _, _, _, _, _ => rfl
  | [], y :: T, _, _, _, _, h => absurd ((h y).2 List.mem_cons_self) (by simp)
  | x :: S, [], _, _, _, _, h => absurd ((h x).1 List.mem_cons_self) (by simp)
  | x :: S, y :: T, hS, hT, iS, iT, h => by
    unfold Srt at hS hT
    unfold Ids at iS iT
    rw [List.pairwise_cons] at hS hT
    rw [List.map_cons, List.pairwise_cons] at iS iT
    have hxy : x = y := by
      rcases List.mem_cons.1 ((h x).1 List.mem_cons_self) with e | e
      · exact e
      · rcases List.mem_cons.1 ((h y).2 List.mem_cons_self) with e' | e'
        · exact e'.symm
        · have h1 := hT.1 x e
          have h2 := hS.1 y e'
          rw [bef_asymm h1] at h2
          cases h2
    subst hxy
    have hx1 : x ∉ S := fun hm => iS.1 x.1 (List.mem_map_of_mem hm) rfl
    have hx2 : x ∉ T := fun hm => iT.1 x.1 (List.mem_map_of_mem hm) rfl
    rw [srt_unique hS.2 hT.2 iS.2 iT.2 (fun z => by
      constructor
      · intro hz
        rcases List.mem_cons.1 ((h z).1 (List.mem_cons_of_mem _ hz)) with e | e
        · subst e; exact absurd hz hx1
        · exact e
      · intro hz
        rcases List.mem_cons.1 ((h z).2 (List.mem_cons_of_mem _ hz)) with e | e
        · subst e; exact absurd hz hx2
        · exact e)]
theorem srt_nil : Srt ([] : List It) := List.Pairwise.nil
theorem ids_nil : Ids ([] : List It) := List.Pairwise.nil
/-- Pushed in another order: the same. -/
theorem pushAll_perm {L M : List It} (h : L.Perm M) : pushAll [] L = pushAll [] M := by
  obtain ⟨a1, a2⟩ := pushAll_ok L srt_nil ids_nil
  obtain ⟨b1, b2⟩ := pushAll_ok M srt_nil ids_nil
  have hk : keyS (pushAll [] L) = keyS (pushAll [] M) := by rw [keyS_all L srt_nil ids_nil, keyS_all M srt_nil ids_nil, foldl_updK h]
  exact srt_unique a1 b1 a2 b2 fun x => ⟨fun hx => mem_of_keys b2 a2 hk x hx, fun hx => mem_of_keys a2 b2 hk.symm x hx⟩
theorem pushAll_len : ∀ (L : List It) (S : List It), (pushAll S L).length ≤ S.length + L.length
  | [], _ => Nat.le_refl _
  | x :: L, S => by
    have h1 := pushAll_len L (pushS S x.1 x.2).2
    have h2 := Go.Proofs.Ytheahhcbmknaoaa.pushS_len S x.1 x.2
    have : (pushAll S (x :: L)).length = (pushAll (pushS S x.1 x.2).2 L).length := rfl
    rw [this, List.length_cons]
    omega
theorem pushAll_snoc (S L : List It) (x : It) : pushAll S (L ++ [x]) = (pushS (pushAll S L) x.1 x.2).2 := by unfold pushAll; rw [List.foldl_append]; rfl
theorem pushAll_take (S L : List It) (j : Nat) (h : j < L.length) : pushAll S (L.take (j + 1)) = (pushS (pushAll S (L.take j)) (g L j).1 (g L j).2).2 := by
  rw [List.take_add_one, List.getElem?_eq_getElem h, Option.toList_some, pushAll_snoc, g_eq L j h]
/-- A row turned by t. -/
def rotL (L : List It) (t : Nat) : List It := L.drop t ++ L.take t
theorem rotL_perm (L : List It) (t : Nat) : (rotL L t).Perm L := by
  unfold rotL
  exact List.perm_append_comm.trans (by rw [List.take_append_drop])
theorem rotL_len (L : List It) (t : Nat) : (rotL L t).length = L.length := (rotL_perm L t).length_eq
theorem rotL_at (L : List It) (t j : Nat) (ht : t < L.length) (hj : j < L.length) : g (rotL L t) j = g L ((j + t) % L.length) := by
  rw [g_eq _ j (by rw [rotL_len]; exact hj), g_eq L _ (Nat.mod_lt _ (by omega))]
  unfold rotL
  by_cases h : j < L.length - t
  · rw [List.getElem_append_left (by simpa using h), List.getElem_drop]
    congr 1
    rw [Nat.mod_eq_of_lt (by omega)]; omega
  · rw [List.getElem_append_right (by simpa using h), List.getElem_take]
    congr 1
    rw [List.length_drop, show j + t = (j - (L.length - t)) + L.length by omega, Nat.add_mod_right, Nat.mod_eq_of_lt (by omega)]
/-- Who is ahead of all, and not there, is pushed in front. -/
theorem push_front {x : It} {T : List It} (hs : Srt (x :: T)) (hi : Ids (x :: T)) : pushS T x.1 x.2 = (true, x :: T) := by
  unfold Srt at hs
  unfold Ids at hi
  rw [List.pairwise_cons] at hs
  rw [List.map_cons, List.pairwise_cons] at hi
  have hk : keyS T x.1 = none := keyS_none fun y hy e => hi.1 y.1 (List.mem_map_of_mem hy) e.symm
  have hins : insS T (x.1, x.2) = x :: T := by
    unfold insS
    cases T with
    | nil => rfl
    | cons y r =>
      have hb : bef y (x.1, x.2) = false := bef_asymm (hs.1 y List.mem_cons_self)
      rw [List.takeWhile_cons_of_neg (by simp [hb]), List.dropWhile_cons_of_neg (by simp [hb])]
      rfl
  unfold pushS
  rw [hk]
  simp only [hins]
theorem drop_at (S : List It) (i : Nat) (h : i < S.length) : S.drop i = g S i :: S.drop (i + 1) := by rw [g_eq S i h]; exact List.drop_eq_getElem_cons h
theorem srt_dropN {S : List It} (h : Srt S) (i : Nat) : Srt (S.drop i) := List.Pairwise.sublist (List.drop_sublist _ _) h
theorem ids_dropN {S : List It} (h : Ids S) (i : Nat) : Ids (S.drop i) := by
  unfold Ids at *
  rw [List.map_drop]
  exact List.Pairwise.sublist (List.drop_sublist _ _) h
end Mile
