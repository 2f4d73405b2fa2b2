/- What an arc of levels stands for, as plain lists. -/
import Derived.Test.YtjjedebjbgpimaaGreatLvP4
namespace Go.Proofs.YtjjedebjbgpimaaGreat
open Go.RowKit Mile
set_option maxRecDepth 100000
def unL (T : List Ar) : Nat → Int → Int → Option (List Int)
  | 0, _, _ => none
  | k + 1, f, t => match findN T f t with
    | none => none
    | some a => if a.m < 0 then some [f, t] else match unL T k f a.m, unL T k a.m t with
      | some x, some y => some (x ++ y.drop 1)
      | _, _ => none
def depA (V : List Nat) (a : Ar) : Nat := if a.m < 0 then 0 else V.idxOf a.m.toNat + 1
def UnOk (T : List Ar) (D : Ar → Nat) (N : Nat) : Prop := ∀ a ∈ T, D a ≤ N ∧ (0 ≤ a.m → ∃ p ∈ T, ∃ q ∈ T, p.f = a.f ∧ p.t = a.m ∧ q.f = a.m ∧ q.t = a.t ∧ p.w + q.w = a.w ∧ D p < D a ∧ D q < D a)
theorem dep_le {P : List Ar → Nat → Int → List Int} {n : Nat} {L : List Ar} (hok : NetOk n L) (hin : ∀ a ∈ L, a.m = -1) {j : Nat} (hj : j < n) {b : Ar} (hb : b ∈ (bAt n P L n).T) (h : b.f = (bV n P L j : Int) ∨ b.t = (bV n P L j : Int)) : depA (bAt n P L n).V b ≤ j := by
  unfold depA
  split
  · omega
  · rename_i hm
    rcases bAt_half P hok n (Nat.le_refl n) b hb with h1 | ⟨i, hi, hmi, _, hfr⟩
    · have := hin b h1; omega
    · rw [hmi, Int.toNat_natCast, rank_bV P hok hi]
      have hv := bV_lt P hok hj
      have h2 : bV n P L j ∉ (bAt n P L (i + 1)).V := fun x => by
        have := hfr _ x
        rcases h with h | h
        · exact this.1 h
        · exact this.2 h
      have h3 := mt (in_take P hok (k := i + 1) (by omega) hv.1).2 h2
      rw [rank_bV P hok hj] at h3
      omega
theorem un_ok {P : List Ar → Nat → Int → List Int} {n : Nat} {L : List Ar} (hok : NetOk n L) (hin : ∀ a ∈ L, a.m = -1) : UnOk (bAt n P L n).T (depA (bAt n P L n).V) n := fun a ha => by
  rcases bAt_half P hok n (Nat.le_refl n) a ha with h1 | ⟨j, hj, hmj, ⟨p, hp, q, hq, g1, g2, g3, g4, g5⟩, _⟩
  · have := hin a h1
    exact ⟨by unfold depA; rw [if_pos (by omega)]; omega, fun h => by omega⟩
  · have hd : depA (bAt n P L n).V a = j + 1 := by
      unfold depA
      rw [if_neg (by omega), hmj, Int.toNat_natCast, rank_bV P hok hj]
    refine ⟨by omega, fun _ => ⟨p, hp, q, hq, g1, g2, g3, g4, g5, ?_, ?_⟩⟩
    · have := dep_le (P := P) hok hin hj hp (.inr (by rw [g2, hmj])); omega
    · have := dep_le (P := P) hok hin hj hq (.inl (by rw [g3, hmj])); omega
inductive ChA (L : List Ar) : List Int → Int → Prop
  | one (x : Int) : ChA L [x] 0
  | cons (x y : Int) (r : List Int) (w : Int) (a : Ar) : findN L x y = some a → ChA L (y :: r) w → ChA L (x :: y :: r) (a.w + w)
theorem ChA.app {L : List Ar} {ys : List Int} {w2 : Int} {m : Int} (hm : ys.head? = some m) (h2 : ChA L ys w2) {xs : List Int} {w1 : Int} (h1 : ChA L xs w1) : xs.getLast? = some m → ChA L (xs ++ ys.drop 1) (w1 + w2) := by
  obtain ⟨y, r, rfl⟩ : ∃ y r, ys = y :: r := by
    cases ys with
    | nil => cases hm
    | cons y r => exact ⟨y, r, rfl⟩
  simp only [List.head?_cons, Option.some.injEq] at hm
  subst hm
  induction h1 with
  | one x =>
    intro h
    simp only [List.getLast?_singleton, Option.some.injEq] at h
    subst h
    have : (0 : Int) + w2 = w2 := by omega
    rw [this]
    exact h2
  | cons x z r' w a hf hc ih =>
    intro h
    have := ih (by rw [List.getLast?_cons_cons] at h; exact h)
    rw [show a.w + w + w2 = a.w + (w + w2) by omega]
    exact ChA.cons x z _ _ a hf this
theorem un_row {n N : Nat} {L T : List Ar} {D : Ar → Nat} (hT : NetOk n T) (hL : NetOk n L) (hD : UnOk T D N) (hin : ∀ a ∈ T, a.m < 0 → a ∈ L) : ∀ (k : Nat) (a : Ar), a ∈ T → D a < k →
    ∃ r, unL T k a.f a.t = some r ∧ 2 ≤ r.length ∧ r.head? = some a.f ∧ r.getLast? = some a.t ∧ ChA L r a.w ∧ r.length ≤ 2 ^ D a + 1 ∧ ∀ j, D a < j → unL T j a.f a.t = some r := by
  intro k
  induction k with
  | zero => intro a _ h; omega
  | succ k ih =>
    intro a ha hk
    have hf := findN_some hT.sort ha
    by_cases hm : a.m < 0
    · refine ⟨[a.f, a.t], by unfold unL; rw [hf]; simp only; rw [if_pos hm], by simp, rfl, rfl, ?_, by have h1 : 0 < 2 ^ D a := Nat.pow_pos (by omega); simp only [List.length_cons, List.length_nil]; omega, fun j hj => ?_⟩
      · have h1 := ChA.cons a.f a.t [] 0 a (findN_some hL.sort (hin a ha hm)) (ChA.one _)
        rw [show a.w + 0 = a.w by omega] at h1
        exact h1
      · obtain ⟨i, rfl⟩ : ∃ i, j = i + 1 := ⟨j - 1, by omega⟩
        unfold unL; rw [hf]; simp only; rw [if_pos hm]
    · obtain ⟨p, hp, q, hq, g1, g2, g3, g4, g5, g6, g7⟩ := (hD a ha).2 (by omega)
      obtain ⟨x, x1, x2, x3, x4, x5, x6, x7⟩ := ih p hp (by omega)
      obtain ⟨y, y1, y2, y3, y4, y5, y6, y7⟩ := ih q hq (by omega)
      have key : ∀ j, D a < j → unL T j a.f a.t = some (x ++ y.drop 1) := fun j hj => by
        obtain ⟨i, rfl⟩ : ∃ i, j = i + 1 := ⟨j - 1, by omega⟩
        have hx := x7 i (by omega)
        have hy := y7 i (by omega)
        rw [g1, g2] at hx
        rw [g3, g4] at hy
        unfold unL; rw [hf]; simp only; rw [if_neg hm, hx, hy]
      have hdl : (y.drop 1).length + 1 = y.length := by rw [List.length_drop]; omega
      have hne : y.drop 1 ≠ [] := fun e => by rw [e] at hdl; simp at hdl; omega
      refine ⟨x ++ y.drop 1, key (k + 1) hk, by rw [List.length_append]; omega, ?_, ?_, ?_, ?_, key⟩
      · rw [List.head?_append, x3, g1]; rfl
      · rw [List.getLast?_append, List.getLast?_drop, if_neg (by omega), y4, g4]; rfl
      · rw [← g5]
        exact ChA.app (m := a.m) (by rw [y3, g3]) y5 x5 (by rw [x4, g2])
      · rw [List.length_append]
        have h1 : 2 ^ D p ≤ 2 ^ (D a - 1) := Nat.pow_le_pow_right (by omega) (by omega)
        have h2 : 2 ^ D q ≤ 2 ^ (D a - 1) := Nat.pow_le_pow_right (by omega) (by omega)
        have h3 : 2 ^ D a = 2 ^ (D a - 1) + 2 ^ (D a - 1) := by
          have : D a = (D a - 1) + 1 := by omega
          rw [this, Nat.pow_succ]; simp; omega
        omega
end Go.Proofs.YtjjedebjbgpimaaGreat
