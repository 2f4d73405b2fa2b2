/- Timers as rising lists of those that are waited for: beginning, stopping, what is due; the waits. -/
import Derived.Test.YtdahoecejnnjkaaIMap
import Derived.Maps.Ext
namespace Mile
open Go Go.RowKit Go.Maps

/-- One that is waited for: its number, till when, how often it was tried. -/
structure Wt where
  id : Int
  due : Int
  n : Nat

/-- Doubled so often, but not once it is as long as the longest. -/
def dbl (M : Nat) : Nat → Nat → Nat
  | 0, b => b
  | k + 1, b => if b < M then dbl M k (2 * b) else b
def waitN (B M k : Nat) : Nat := min (dbl M k B) M
theorem dbl_stop {M b : Nat} (h : ¬ b < M) : ∀ k, dbl M k b = b
  | 0 => rfl
  | k + 1 => by unfold dbl; rw [if_neg h]
theorem dbl_step {M b : Nat} (h : b < M) (k : Nat) : dbl M (k + 1) b = dbl M k (2 * b) := by rw [dbl, if_pos h]
theorem dbl_ge (M : Nat) : ∀ k b, b ≤ dbl M k b
  | 0, b => Nat.le_refl _
  | k + 1, b => by
    unfold dbl
    by_cases h : b < M
    · rw [if_pos h]; have := dbl_ge M k (2 * b); omega
    · rw [if_neg h]; exact Nat.le_refl _
theorem dbl_succ (M : Nat) : ∀ k b, dbl M k b ≤ dbl M (k + 1) b
  | 0, b => by
    unfold dbl
    by_cases h : b < M
    · rw [if_pos h, dbl]; omega
    · rw [if_neg h]; exact Nat.le_refl _
  | k + 1, b => by
    by_cases h : b < M
    · rw [dbl_step h, dbl_step h]; exact dbl_succ M k (2 * b)
    · rw [dbl_stop h, dbl_stop h]; exact Nat.le_refl _
theorem waitN_le (B M k : Nat) : waitN B M k ≤ M := Nat.min_le_right _ _
theorem waitN_ge {B M : Nat} (h : B ≤ M) (k : Nat) : B ≤ waitN B M k := by have := dbl_ge M k B; unfold waitN; omega
theorem waitN_succ (B M k : Nat) : waitN B M k ≤ waitN B M (k + 1) := by have := dbl_succ M k B; unfold waitN; omega
theorem waitN_zero {B M : Nat} (h : B ≤ M) : waitN B M 0 = B := by unfold waitN dbl; omega

def stopW (L : List Wt) (id : Int) : List Wt := L.filter fun e => !decide (e.id = id)
def insW (x : Wt) : List Wt → List Wt
  | [] => [x]
  | y :: r => if x.id < y.id then x :: y :: r else y :: insW x r
def putW (L : List Wt) (x : Wt) : List Wt := insW x (stopW L x.id)
/-- The numbers rise. -/
def RiseW (L : List Wt) : Prop := (L.map (·.id)).Pairwise (· < ·)
theorem RiseW.nil : RiseW [] := List.Pairwise.nil
theorem RiseW.sub {L K : List Wt} (h : RiseW L) (hs : List.Sublist (K.map (·.id)) (L.map (·.id))) : RiseW K := List.Pairwise.sublist hs h
theorem stopW_sub (L : List Wt) (id : Int) : List.Sublist (stopW L id) L := List.filter_sublist
theorem RiseW.stop {L : List Wt} (h : RiseW L) (id : Int) : RiseW (stopW L id) := h.sub ((stopW_sub L id).map _)
theorem RiseW.cons {x : Wt} {L : List Wt} : RiseW (x :: L) ↔ (∀ y ∈ L, x.id < y.id) ∧ RiseW L := by
  unfold RiseW
  simp [List.pairwise_cons]
theorem mem_insW {x y : Wt} : ∀ {L : List Wt}, y ∈ insW x L ↔ y = x ∨ y ∈ L
  | [] => by simp [insW]
  | z :: r => by
    unfold insW
    by_cases h : x.id < z.id
    · rw [if_pos h]; simp
    · rw [if_neg h, List.mem_cons, mem_insW (L := r), List.mem_cons]
      constructor
      · rintro (h | h | h)
        · exact .inr (.inl h)
        · exact .inl h
        · exact .inr (.inr h)
      · rintro (h | h | h)
        · exact .inr (.inl h)
        · exact .inl h
        · exact .inr (.inr h)
theorem RiseW.ins {x : Wt} : ∀ {L : List Wt}, RiseW L → (∀ y ∈ L, y.id ≠ x.id) → RiseW (insW x L)
  | [], _, _ => by unfold insW RiseW; simp
  | z :: r, h, hn => by
    obtain ⟨h1, h2⟩ := RiseW.cons.1 h
    have hz := hn z (by simp)
    unfold insW
    by_cases c : x.id < z.id
    · rw [if_pos c]
      exact RiseW.cons.2 ⟨fun y hy => by rcases List.mem_cons.1 hy with e | e; · rw [e]; exact c
                                         · have := h1 y e; omega, h⟩
    · rw [if_neg c]
      refine RiseW.cons.2 ⟨fun y hy => ?_, RiseW.ins h2 (fun y hy => hn y (by simp [hy]))⟩
      rcases mem_insW.1 hy with e | e
      · rw [e]; omega
      · exact h1 y e
theorem mem_stopW {L : List Wt} {id : Int} {y : Wt} : y ∈ stopW L id ↔ y ∈ L ∧ y.id ≠ id := by simp [stopW]
theorem RiseW.put {L : List Wt} (h : RiseW L) (x : Wt) : RiseW (putW L x) := (h.stop x.id).ins fun _ hy => (mem_stopW.1 hy).2
theorem mem_putW {L : List Wt} {x y : Wt} : y ∈ putW L x ↔ y = x ∨ y ∈ L ∧ y.id ≠ x.id := by unfold putW; rw [mem_insW, mem_stopW]
theorem insW_len (x : Wt) : ∀ L : List Wt, (insW x L).length = L.length + 1
  | [] => rfl
  | y :: r => by
    unfold insW
    by_cases h : x.id < y.id
    · rw [if_pos h]; rfl
    · rw [if_neg h, List.length_cons, insW_len x r]; rfl
theorem putW_len (L : List Wt) (x : Wt) : (putW L x).length ≤ L.length + 1 := by
  unfold putW
  rw [insW_len]
  have := (stopW_sub L x.id).length_le
  omega
/-- Ahead of all that are greater, behind all that are less. -/
theorem insW_mid {x : Wt} : ∀ {A : List Wt} (_ : ∀ y ∈ A, ¬ x.id < y.id) {Q : List Wt} (_ : ∀ y ∈ Q, x.id < y.id), insW x (A ++ Q) = A ++ x :: Q
  | [], _, [], _ => rfl
  | [], _, q :: Q, hq => by show insW x (q :: Q) = x :: q :: Q; unfold insW; rw [if_pos (hq q (by simp))]
  | a :: A, ha, Q, hq => by
    show insW x (a :: (A ++ Q)) = _
    unfold insW
    rw [if_neg (ha a (by simp)), insW_mid (fun y hy => ha y (by simp [hy])) hq]
    rfl
theorem stopW_none {L : List Wt} {id : Int} (h : ∀ y ∈ L, y.id ≠ id) : stopW L id = L := List.filter_eq_self.2 fun y hy => by simpa using h y hy
theorem rise_split {A : List Wt} {e : Wt} {Q : List Wt} (h : RiseW (A ++ e :: Q)) : (∀ y ∈ A, y.id < e.id) ∧ (∀ y ∈ Q, e.id < y.id) := by
  unfold RiseW at h
  rw [List.map_append, List.map_cons, List.pairwise_append] at h
  obtain ⟨_, h2, h3⟩ := h
  rw [List.pairwise_cons] at h2
  exact ⟨fun y hy => h3 _ (List.mem_map_of_mem hy) _ (by simp), fun y hy => h2.1 _ (List.mem_map_of_mem hy)⟩
theorem stopW_mid {A : List Wt} {e : Wt} {Q : List Wt} (h : RiseW (A ++ e :: Q)) : stopW (A ++ e :: Q) e.id = A ++ Q := by
  obtain ⟨h1, h2⟩ := rise_split h
  unfold stopW
  rw [List.filter_append, List.filter_cons_of_neg (by simp)]
  have e1 := stopW_none (L := A) (id := e.id) (fun y hy => by have := h1 y hy; omega)
  have e2 := stopW_none (L := Q) (id := e.id) (fun y hy => by have := h2 y hy; omega)
  unfold stopW at e1 e2
  rw [e1, e2]
theorem putW_mid {A : List Wt} {e x : Wt} {Q : List Wt} (h : RiseW (A ++ e :: Q)) (he : x.id = e.id) : putW (A ++ e :: Q) x = A ++ x :: Q := by
  obtain ⟨h1, h2⟩ := rise_split h
  unfold putW
  rw [he, stopW_mid h]
  exact insW_mid (fun y hy => by have := h1 y hy; omega) (fun y hy => by have := h2 y hy; omega)
theorem findW_mid {A : List Wt} {e : Wt} {Q : List Wt} (h : RiseW (A ++ e :: Q)) : (A ++ e :: Q).find? (fun y => decide (y.id = e.id)) = some e := by
  obtain ⟨h1, h2⟩ := rise_split h
  rw [List.find?_append, List.find?_eq_none.2 (fun y hy => by have := h1 y hy; simp; omega)]
  simp

/-- What becomes of one when it is asked at a moment. -/
def dueW (B M R : Nat) (now : Int) (e : Wt) : Option Wt :=
  if now < e.due then some e else if e.n < R then some ⟨e.id, now + waitN B M (e.n + 1), e.n + 1⟩ else none
theorem dueW_id {B M R : Nat} {now : Int} {e x : Wt} (h : dueW B M R now e = some x) : x.id = e.id := by
  unfold dueW at h
  split at h
  · cases h; rfl
  · split at h
    · cases h; rfl
    · cases h
/-- Those whose time has come. -/
def dueE (L : List Wt) (now : Int) : List Wt := L.filter fun e => decide (e.due ≤ now)
def againE (R : Nat) (E : List Wt) : List Int := (E.filter fun e => decide (e.n < R)).map (·.id)
def overE (R : Nat) (E : List Wt) : List Int := (E.filter fun e => !decide (e.n < R)).map (·.id)
/-- What is left once the first so many of these were looked at. -/
def dueSt (B M R : Nat) (now : Int) : Nat → List Wt → List Wt
  | _, [] => []
  | 0, e :: L => e :: L
  | j + 1, e :: L => if now < e.due then e :: dueSt B M R now (j + 1) L else (dueW B M R now e).toList ++ dueSt B M R now j L
theorem dueSt_zero (B M R : Nat) (now : Int) (L : List Wt) : dueSt B M R now 0 L = L := by cases L <;> rfl
theorem filterMapW_ids (B M R : Nat) (now : Int) : ∀ P : List Wt, List.Sublist ((P.filterMap (dueW B M R now)).map (·.id)) (P.map (·.id))
  | [] => List.Sublist.refl _
  | e :: P => by
    cases h : dueW B M R now e with
    | none => rw [List.filterMap_cons_none h]; exact (filterMapW_ids B M R now P).cons _
    | some x => rw [List.filterMap_cons_some h, List.map_cons, List.map_cons, dueW_id h]; exact (filterMapW_ids B M R now P).cons_cons _
theorem dueSt_at (B M R : Nat) (now : Int) : ∀ (L : List Wt) (j : Nat), j < (dueE L now).length →
    ∃ P e Q, L = P ++ e :: Q ∧ (dueE L now)[j]? = some e ∧ ¬ now < e.due ∧ dueSt B M R now j L = P.filterMap (dueW B M R now) ++ e :: Q ∧
      dueSt B M R now (j + 1) L = P.filterMap (dueW B M R now) ++ ((dueW B M R now e).toList ++ Q)
  | [], j, h => absurd h (by simp [dueE])
  | e :: L, j, h => by
    by_cases c : now < e.due
    · have hd : dueE (e :: L) now = dueE L now := by unfold dueE; rw [List.filter_cons_of_neg (by simp; omega)]
      rw [hd] at h ⊢
      have hw : dueW B M R now e = some e := by unfold dueW; rw [if_pos c]
      obtain ⟨P, x, Q, h1, h2, h3, h4, h5⟩ := dueSt_at B M R now L j h
      refine ⟨e :: P, x, Q, by rw [h1]; rfl, h2, h3, ?_, ?_⟩
      · rw [List.filterMap_cons_some hw]
        cases j with
        | zero => rw [dueSt_zero] at h4 ⊢; rw [h4]; rfl
        | succ j => rw [dueSt, if_pos c, h4]; rfl
      · rw [List.filterMap_cons_some hw, dueSt, if_pos c, h5]; rfl
    · have hd : dueE (e :: L) now = e :: dueE L now := by unfold dueE; rw [List.filter_cons_of_pos (by simp; omega)]
      rw [hd] at h ⊢
      cases j with
      | zero => exact ⟨[], e, L, rfl, rfl, c, rfl, by rw [dueSt, if_neg c, dueSt_zero]; rfl⟩
      | succ j =>
        obtain ⟨P, x, Q, h1, h2, h3, h4, h5⟩ := dueSt_at B M R now L j (by simpa using h)
        refine ⟨e :: P, x, Q, by rw [h1]; rfl, by simpa using h2, h3, ?_, ?_⟩
        · rw [dueSt, if_neg c, h4]
          cases hw : dueW B M R now e with
          | none => rw [List.filterMap_cons_none hw]; rfl
          | some y => rw [List.filterMap_cons_some hw]; rfl
        · rw [dueSt, if_neg c, h5]
          cases hw : dueW B M R now e with
          | none => rw [List.filterMap_cons_none hw]; rfl
          | some y => rw [List.filterMap_cons_some hw]; rfl
theorem dueSt_end (B M R : Nat) (now : Int) : ∀ L : List Wt, dueSt B M R now (dueE L now).length L = L.filterMap (dueW B M R now)
  | [] => rfl
  | e :: L => by
    by_cases c : now < e.due
    · have hd : dueE (e :: L) now = dueE L now := by unfold dueE; rw [List.filter_cons_of_neg (by simp; omega)]
      have hw : dueW B M R now e = some e := by unfold dueW; rw [if_pos c]
      rw [hd, List.filterMap_cons_some hw, ← dueSt_end B M R now L]
      cases hl : (dueE L now).length with
      | zero => rw [dueSt_zero, dueSt_zero]
      | succ j => rw [dueSt, if_pos c]
    · have hd : dueE (e :: L) now = e :: dueE L now := by unfold dueE; rw [List.filter_cons_of_pos (by simp; omega)]
      rw [hd, List.length_cons, dueSt, if_neg c, dueSt_end B M R now L]
      cases hw : dueW B M R now e with
      | none => rw [List.filterMap_cons_none hw]; rfl
      | some y => rw [List.filterMap_cons_some hw]; rfl

theorem dueSt_len (B M R : Nat) (now : Int) : ∀ (L : List Wt) (j : Nat), (dueSt B M R now j L).length ≤ L.length
  | [], j => by cases j <;> exact Nat.le_refl _
  | e :: L, 0 => Nat.le_refl _
  | e :: L, j + 1 => by
    rw [dueSt]
    by_cases c : now < e.due
    · rw [if_pos c, List.length_cons, List.length_cons]; have := dueSt_len B M R now L (j + 1); omega
    · rw [if_neg c, List.length_append, List.length_cons]
      have h1 := dueSt_len B M R now L j
      have h2 : (dueW B M R now e).toList.length ≤ 1 := by cases dueW B M R now e <;> simp
      omega

/-- As a map's datum. -/
def tmE (e : Wt) : Lit × DataW Unit := (.int .i64 e.id, .agg [.lit (.int .i64 e.due), .lit (.int .i64 e.n)])
def tmD (L : List Wt) : DataW Unit := .map (L.map tmE)
def waitR (v : Value) : Option (DataW Unit × List MemPlace) :=
  match v with
  | .agg cs => match cs.toList with
    | [.int .i64 a, .int .i64 b] => some (.agg [.lit (.int .i64 a), .lit (.int .i64 b)], [])
    | _ => none
  | _ => none
theorem waitR_mk (a b : Int) : waitR (.agg #[.int .i64 a, .int .i64 b]) = some (.agg [.lit (.int .i64 a), .lit (.int .i64 b)], []) := rfl
theorem waitR_inv {v : Value} {z : DataW Unit × List MemPlace} (h : waitR v = some z) : ∃ a b, v = .agg #[.int .i64 a, .int .i64 b] ∧ z = (.agg [.lit (.int .i64 a), .lit (.int .i64 b)], []) := by
  cases v with
  | agg cs =>
    obtain ⟨l⟩ := cs
    unfold waitR at h
    dsimp only at h
    split at h
    · exact ⟨_, _, by simp_all, (Option.some.inj h).symm⟩
    · cases h
  | _ => cases h
theorem same_int (a b : Int) : (Lit.int .i64 a).sameKey (.int .i64 b) = decide (a = b) := by simp [Lit.sameKey]
theorem tmD_filter (L : List Wt) (k : Int) : (L.map tmE).filter (fun p => !p.1.sameKey (.int .i64 k)) = (stopW L k).map tmE := by
  unfold stopW
  rw [List.filter_map]
  have : ((fun p : Lit × DataW Unit => !p.1.sameKey (.int .i64 k)) ∘ tmE) = fun e => !decide (e.id = k) := by funext e; exact congrArg not (same_int _ _)
  rw [this]
theorem tmD_ins (x : Wt) : ∀ L : List Wt, DataW.insert (tmE x) (L.map tmE) = (insW x L).map tmE
  | [] => rfl
  | y :: r => by
    show (if (tmE x).1.before (tmE y).1 then _ else _) = _
    unfold insW
    have hb : (tmE x).1.before (tmE y).1 = decide (x.id < y.id) := rfl
    rw [hb]
    by_cases h : x.id < y.id
    · rw [if_pos h, if_pos (by simpa using h)]; rfl
    · rw [if_neg h, if_neg (by simpa using h), tmD_ins x r]; rfl
theorem tmD_put (L : List Wt) (x : Wt) : (tmD L).put (.int .i64 x.id) (tmE x).2 = tmD (putW L x) := by
  show DataW.map (DataW.insert _ ((L.map tmE).filter _)) = _
  rw [tmD_filter]
  exact congrArg DataW.map (tmD_ins x _)
theorem tmD_del (L : List Wt) (k : Int) : (tmD L).del (.int .i64 k) = tmD (stopW L k) := congrArg DataW.map (tmD_filter L k)
theorem tmD_size (L : List Wt) : Maps.size (tmD L) = L.length := by simp [tmD, Maps.size]
theorem tmD_has (L : List Wt) (k : Int) : Maps.has (tmD L) (.int .i64 k) = L.any (fun e => decide (e.id = k)) := by
  show (L.map tmE).any _ = _
  rw [List.any_map]
  have : ((fun p : Lit × DataW Unit => p.1.sameKey (.int .i64 k)) ∘ tmE) = fun e => decide (e.id = k) := by funext e; exact same_int _ _
  rw [this]
theorem tmD_at (L : List Wt) (k : Int) (z : DataW Unit) : (tmD L).atKey (.int .i64 k) z = match L.find? (fun e => decide (e.id = k)) with | some e => (tmE e).2 | none => z := by
  unfold DataW.atKey tmD
  dsimp only
  rw [List.find?_map]
  have : ((fun p : Lit × DataW Unit => p.1.sameKey (.int .i64 k)) ∘ tmE) = fun e => decide (e.id = k) := by funext e; exact same_int _ _
  rw [this]
  cases L.find? (fun e => decide (e.id = k)) <;> rfl
end Mile
