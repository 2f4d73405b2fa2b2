/- The sorted list that a heap stands for: Push and Pop on it. -/
import Derived.Test.YtheahhcbmknaoaaHeapP
namespace Mile

def Srt (S : List It) : Prop := S.Pairwise (fun x y => bef x y = true)
def Ids (S : List It) : Prop := (S.map (·.1)).Pairwise (· ≠ ·)

def keyS (S : List It) (id : Int) : Option Int := (S.find? (fun x => x.1 == id)).map (·.2)
def insS (S : List It) (x : It) : List It := S.takeWhile (fun y => bef y x) ++ x :: S.dropWhile (fun y => bef y x)
def dropS (S : List It) (id : Int) : List It := S.filter (fun y => y.1 != id)
/-- Whether it was put in; what is there then. -/
def pushS (S : List It) (id key : Int) : Bool × List It :=
  match keyS S id with
  | some k => if k ≤ key then (false, S) else (true, insS (dropS S id) (id, key))
  | none => (true, insS S (id, key))

theorem insS_perm (S : List It) (x : It) : (insS S x).Perm (x :: S) := by
  unfold insS
  refine List.perm_middle.trans ?_
  rw [List.takeWhile_append_dropWhile]

theorem ids_perm {S T : List It} (h : S.Perm T) (hi : Ids S) : Ids T := (h.map _).pairwise hi (fun {_ _} e => Ne.symm e)
theorem ids_drop {S : List It} (h : Ids S) (id : Int) : Ids (dropS S id) := by
  unfold Ids dropS at *
  exact h.sublist (List.Sublist.map _ List.filter_sublist)
theorem srt_drop {S : List It} (h : Srt S) (id : Int) : Srt (dropS S id) := List.Pairwise.filter _ h
theorem mem_dropS {S : List It} {id : Int} {x : It} : x ∈ dropS S id ↔ x ∈ S ∧ x.1 ≠ id := by simp [dropS]

theorem srt_ins {S : List It} {x : It} (h : Srt S) (hx : x ∉ S) : Srt (insS S x) := by
  unfold insS Srt
  induction S with
  | nil => simp
  | cons y S ih =>
    rw [Srt, List.pairwise_cons] at h
    have hxS : x ∉ S := fun e => hx (by simp [e])
    have hne : x ≠ y := fun e => hx (by simp [e])
    cases hb : bef y x with
    | true =>
      simp only [List.takeWhile_cons, List.dropWhile_cons, hb, if_true]
      rw [List.cons_append, List.pairwise_cons]
      refine ⟨fun z hz => ?_, ih h.2 hxS⟩
      have hz' := (insS_perm S x).mem_iff.1 hz
      rw [List.mem_cons] at hz'
      rcases hz' with e | e
      · rw [e]; exact hb
      · exact h.1 z e
    | false =>
      simp only [List.takeWhile_cons, List.dropWhile_cons, hb, Bool.false_eq_true, if_false]
      rw [List.nil_append, List.pairwise_cons]
      have hxy : bef x y = true := by
        rcases bef_of_not hb with e | e
        · exact absurd e.symm hne
        · exact e
      refine ⟨fun z hz => ?_, by rw [List.pairwise_cons]; exact h⟩
      rw [List.mem_cons] at hz
      rcases hz with e | e
      · rw [e]; exact hxy
      · exact bef_trans hxy (h.1 z e)

theorem keyS_none {S : List It} {id : Int} (h : ∀ x ∈ S, x.1 ≠ id) : keyS S id = none := by
  unfold keyS
  rw [List.find?_eq_none.2 (fun x hx => by simpa using h x hx)]; rfl
theorem keyS_some {S : List It} {id : Int} (hi : Ids S) {x : It} (hx : x ∈ S) (he : x.1 = id) : keyS S id = some x.2 := by
  unfold keyS
  induction S with
  | nil => cases hx
  | cons y S ih =>
    unfold Ids at hi
    rw [List.map_cons, List.pairwise_cons] at hi
    rw [List.find?_cons]
    by_cases e : y.1 = id
    · have : y = x := by
        rcases List.mem_cons.1 hx with h | h
        · exact h.symm
        · exact absurd (e.trans he.symm) (hi.1 x.1 (List.mem_map_of_mem h))
      subst this
      simp [e]
    · have : (y.1 == id) = false := by simpa using e
      rw [this]
      rcases List.mem_cons.1 hx with h | h
      · subst h; exact absurd he e
      · exact ih hi.2 h
theorem keyS_inv {S : List It} {id k : Int} (h : keyS S id = some k) : (id, k) ∈ S := by
  unfold keyS at h
  obtain ⟨x, hx, hk⟩ := Option.map_eq_some_iff.1 h
  have h1 := List.mem_of_find?_eq_some hx
  have h2 := List.find?_some hx
  simp at h2
  have : x = (id, k) := Prod.ext h2 hk
  rwa [this] at h1
theorem keyS_none_inv {S : List It} {id : Int} (h : keyS S id = none) : ∀ x ∈ S, x.1 ≠ id := by
  unfold keyS at h
  rw [Option.map_eq_none_iff, List.find?_eq_none] at h
  intro x hx e
  exact h x hx (by simpa using e)

theorem dropS_not (S : List It) (id key : Int) : (id, key) ∉ dropS S id := fun h => (mem_dropS.1 h).2 rfl

theorem pushS_ok {S : List It} (hs : Srt S) (hi : Ids S) (id key : Int) : Srt (pushS S id key).2 ∧ Ids (pushS S id key).2 := by
  unfold pushS
  have hins : ∀ T : List It, Srt T → Ids T → (∀ x ∈ T, x.1 ≠ id) → Srt (insS T (id, key)) ∧ Ids (insS T (id, key)) := by
    intro T h1 h2 h3
    refine ⟨srt_ins h1 (fun e => h3 _ e rfl), ids_perm (insS_perm T (id, key)).symm ?_⟩
    unfold Ids at h2 ⊢
    rw [List.map_cons, List.pairwise_cons]
    refine ⟨fun k hk => ?_, h2⟩
    obtain ⟨x, hx, rfl⟩ := List.mem_map.1 hk
    exact Ne.symm (h3 x hx)
  split
  · split
    · exact ⟨hs, hi⟩
    · exact hins _ (srt_drop hs id) (ids_drop hi id) (fun x hx => (mem_dropS.1 hx).2)
  · rename_i h
    exact hins S hs hi (keyS_none_inv h)

/-! of a heap's list -/
theorem getElem_g {l : List It} {i : Nat} (h : i < l.length) : l[i] = g l i := (g_eq l i h).symm
theorem g_mem {l : List It} {i : Nat} (h : i < l.length) : g l i ∈ l := by rw [g_eq l i h]; exact List.getElem_mem h
theorem mem_g {l : List It} {x : It} (h : x ∈ l) : ∃ i, i < l.length ∧ g l i = x := by
  obtain ⟨i, hi, e⟩ := List.getElem_of_mem h
  exact ⟨i, hi, by rw [g_eq l i hi]; exact e⟩
theorem ids_g {l : List It} (h : Ids l) {i j : Nat} (hi : i < l.length) (hj : j < l.length) (e : (g l i).1 = (g l j).1) : i = j := by
  unfold Ids at h
  rw [List.pairwise_iff_getElem] at h
  rcases Nat.lt_trichotomy i j with hlt | heq | hgt
  · have := h i j (by simpa using hi) (by simpa using hj) hlt
    simp [getElem_g, hi, hj] at this
    exact absurd e this
  · exact heq
  · have := h j i (by simpa using hj) (by simpa using hi) hgt
    simp [getElem_g, hi, hj] at this
    exact absurd e.symm this

theorem hord_min {l : List It} (h : HOrd l) : ∀ i, i < l.length → bef (g l i) (g l 0) = false := by
  intro i
  induction i using Nat.strongRecOn with
  | _ i ih =>
    intro hi
    by_cases h0 : i = 0
    · subst h0; exact bef_irrefl _
    · exact nbef_trans (h i (by omega) hi) (ih ((i - 1) / 2) (by omega) (by omega))

theorem head_min {l : List It} {s : It} {S : List It} (h : HOrd l) (hp : l.Perm (s :: S)) (hs : Srt (s :: S)) : g l 0 = s := by
  have hlen : 0 < l.length := by rw [hp.length_eq]; simp
  obtain ⟨i, hi, e⟩ := mem_g (hp.mem_iff.2 (List.mem_cons_self : s ∈ s :: S))
  have h1 := hord_min h i hi
  rw [e] at h1
  have h2 : g l 0 ∈ s :: S := hp.mem_iff.1 (g_mem hlen)
  rcases List.mem_cons.1 h2 with h2 | h2
  · exact h2
  · rw [Srt, List.pairwise_cons] at hs
    rw [hs.1 _ h2] at h1
    cases h1

theorem set_perm : ∀ {l : List It} {i : Nat} (_ : i < l.length) (x : It), (l.set i x).Perm (x :: l.eraseIdx i)
  | [], _, h, _ => by simp at h
  | y :: l, 0, _, x => by simp
  | y :: l, i + 1, h, x => by
    rw [List.set_cons_succ, List.eraseIdx_cons_succ]
    exact ((set_perm (by simpa using h) x).cons y).trans (List.Perm.swap x y _)
theorem get_perm : ∀ {l : List It} {i : Nat} (h : i < l.length), (l[i] :: l.eraseIdx i).Perm l
  | [], _, h => by simp at h
  | y :: l, 0, _ => by simp
  | y :: l, i + 1, h => by
    rw [List.getElem_cons_succ, List.eraseIdx_cons_succ]
    exact (List.Perm.swap y _ _).trans ((get_perm (by simpa using h)).cons y)
theorem erase_perm {l : List It} {i : Nat} (hi : i < l.length) (h : Ids l) : (l.eraseIdx i).Perm (dropS l (g l i).1) := by
  have h1 : (g l i :: l.eraseIdx i).Perm l := by rw [g_eq l i hi]; exact get_perm hi
  have h2 := h1.filter (fun y => y.1 != (g l i).1)
  have h3 : Ids (g l i :: l.eraseIdx i) := ids_perm h1.symm h
  unfold Ids at h3
  rw [List.map_cons, List.pairwise_cons] at h3
  have e : (g l i :: l.eraseIdx i).filter (fun y => y.1 != (g l i).1) = l.eraseIdx i := by
    rw [List.filter_cons_of_neg (by simp), List.filter_eq_self]
    intro y hy
    have := h3.1 y.1 (List.mem_map_of_mem hy)
    simpa using Ne.symm this
  rw [e] at h2
  exact h2
theorem drop_perm {l S : List It} (h : l.Perm S) (id : Int) : (dropS l id).Perm (dropS S id) := h.filter _

/-- The one at i is lowered to x: what is there then. -/
theorem lowered_perm {l S : List It} {i : Nat} (hi : i < l.length) (hids : Ids l) (hp : l.Perm S) (key : Int) : (l.set i ((g l i).1, key)).Perm (insS (dropS S (g l i).1) ((g l i).1, key)) :=
  (set_perm hi _).trans ((((erase_perm hi hids).trans (drop_perm hp _)).cons _).trans (insS_perm _ _).symm)

theorem up_of_ord {l : List It} {i : Nat} (hi : i < l.length) (h : HOrd l) {x : It} (hx : bef x (g l i) = true) : UpInv l i x := by
  refine ⟨fun j j0 jl hj => ?_, fun c c0 cl cp i0 => ?_⟩
  · rw [g_set l i x j hi, g_set l i x _ hi, if_neg hj]
    have := h j j0 jl
    by_cases e : (j - 1) / 2 = i
    · rw [if_pos e]
      rw [e] at this
      cases hb : bef (g l j) x with
      | false => rfl
      | true => rw [bef_trans hb hx] at this; cases this
    · rw [if_neg e]; exact this
  · have h1 := h c c0 cl
    rw [cp] at h1
    exact nbef_trans h1 (h i i0 hi)

theorem up_of_new {l : List It} (h : HOrd l) (x y : It) : UpInv (l ++ [y]) l.length x := by
  have hg : ∀ i, i < l.length → g (l ++ [y]) i = g l i := fun i hi => by unfold g; simp [List.getD, List.getElem?_append_left hi]
  refine ⟨fun j j0 jl hj => ?_, fun c c0 cl cp _ => ?_⟩
  · rw [List.length_append] at jl
    simp at jl
    rw [g_set _ _ x j (by simp), g_set _ _ x _ (by simp), if_neg hj, if_neg (by omega), hg j (by omega), hg _ (by omega)]
    exact h j j0 (by omega)
  · simp at cl; omega

theorem good_of_full {f : Int → Option Int} {l : List It} {i : Nat} (hi : i < l.length) (h : Full f l) (key : Int) : Good f l i ((g l i).1, key) := by
  intro k hk j
  rw [h k j]
  constructor
  · rintro ⟨a, rfl, al, e⟩
    exact ⟨a, rfl, al, fun e2 => hk (by rw [← e, e2]), e⟩
  · rintro ⟨a, rfl, al, _, e⟩
    exact ⟨a, rfl, al, e⟩

theorem good_of_new {f : Int → Option Int} {l : List It} (h : Full f l) (x y : It) : Good f (l ++ [y]) l.length x := by
  have hg : ∀ i, i < l.length → g (l ++ [y]) i = g l i := fun i hi => by unfold g; simp [List.getD, List.getElem?_append_left hi]
  intro k hk j
  rw [h k j]
  constructor
  · rintro ⟨a, rfl, al, e⟩
    exact ⟨a, rfl, by simp; omega, by omega, by rw [hg a al]; exact e⟩
  · rintro ⟨a, rfl, al, hne, e⟩
    have : a < l.length := by simp at al; omega
    exact ⟨a, rfl, this, by rw [hg a this] at e; exact e⟩

theorem new_perm {l S : List It} (hp : l.Perm S) (x y : It) : ((l ++ [y]).set l.length x).Perm (insS S x) := by
  have e : (l ++ [y]).set l.length x = l ++ [x] := by simp
  rw [e]
  exact (List.perm_append_comm.trans (hp.cons x)).trans (insS_perm S x).symm

/-! Pop -/
theorem g_take {l : List It} {n i : Nat} (h : i < n) : g (l.take n) i = g l i := by
  unfold g; rw [List.getD, List.getD, List.getElem?_take, if_pos h]

theorem pop_good {f : Int → Option Int} {l : List It} (h : Full f l) (hids : Ids l) (h1 : 1 < l.length) :
    Good (fun k => if k = (g l 0).1 then none else f k) (l.take (l.length - 1)) 0 (g l (l.length - 1)) := by
  intro k hk j
  rw [List.length_take, Nat.min_eq_left (Nat.sub_le _ _)]
  by_cases e : k = (g l 0).1
  · simp only [e, if_true]
    constructor
    · intro hj; cases hj
    · rintro ⟨i, rfl, il, i0, hi⟩
      rw [g_take il] at hi
      exact absurd (ids_g hids (by omega) (by omega) hi) i0
  · simp only [if_neg e]
    rw [h k j]
    constructor
    · rintro ⟨i, rfl, il, hi⟩
      have h2 : i ≠ l.length - 1 := fun e2 => hk (by rw [← hi, e2])
      exact ⟨i, rfl, by omega, fun e2 => e (by rw [← hi, e2]), by rw [g_take (by omega)]; exact hi⟩
    · rintro ⟨i, rfl, il, _, hi⟩
      rw [g_take il] at hi
      exact ⟨i, rfl, by omega, hi⟩

theorem pop_ids {l : List It} (hids : Ids l) (h1 : 1 < l.length) : ∀ i, i < (l.take (l.length - 1)).length → i ≠ 0 → (g (l.take (l.length - 1)) i).1 ≠ (g l (l.length - 1)).1 := by
  intro i hi _ e
  rw [List.length_take] at hi
  rw [g_take (by omega)] at e
  have := ids_g hids (by omega) (by omega) e
  omega

theorem pop_down {l : List It} (h : HOrd l) (h1 : 1 < l.length) : DownInv (l.take (l.length - 1)) 0 (g l (l.length - 1)) := by
  have hl : (l.take (l.length - 1)).length = l.length - 1 := by rw [List.length_take]; omega
  refine ⟨fun i i0 il ip => ?_, fun c c0 cl cp h0 => by omega⟩
  rw [hl] at il
  rw [g_set _ 0 _ i (by omega), g_set _ 0 _ _ (by omega), if_neg (by omega), if_neg ip, g_take il, g_take (by omega)]
  exact h i i0 (by omega)

theorem pop_perm {l S : List It} {s : It} (hp : l.Perm (s :: S)) (hs : g l 0 = s) (h1 : 1 < l.length) : ((l.take (l.length - 1)).set 0 (g l (l.length - 1))).Perm S := by
  match l, h1, hs, hp with
  | a :: b :: r, _, hs, hp =>
    have ha : a = s := hs
    subst ha
    have hp' : (b :: r).Perm S := List.Perm.cons_inv hp
    refine List.Perm.trans ?_ hp'
    have e1 : (a :: b :: r).take ((a :: b :: r).length - 1) = a :: (b :: r).take r.length := by simp
    rw [e1, List.set_cons_zero]
    have e2 : g (a :: b :: r) ((a :: b :: r).length - 1) = g (b :: r) r.length := by simp [g]
    rw [e2]
    have e3 : (b :: r).take r.length ++ [g (b :: r) r.length] = b :: r := by
      have hlt : r.length < (b :: r).length := by simp
      rw [g_eq _ _ hlt, ← List.take_succ_eq_append_getElem hlt]
      simp
    have e4 := (List.perm_append_comm (l₁ := (b :: r).take r.length) (l₂ := [g (b :: r) r.length]))
    rw [e3] at e4
    exact e4.symm

theorem pop_last {f : Int → Option Int} {l : List It} (h : Full f l) (h1 : l.length = 1) : Full (fun k => if k = (g l 0).1 then none else f k) (l.take (l.length - 1)) := by
  intro k j
  rw [h1]
  simp only [Nat.sub_self, List.take_zero, List.length_nil]
  constructor
  · intro hj
    split at hj
    · cases hj
    · obtain ⟨i, _, il, e⟩ := (h k j).1 hj
      have : i = 0 := by omega
      subst this
      exact absurd e.symm ‹_›
  · rintro ⟨i, _, il, _⟩; omega

theorem full_key {f : Int → Option Int} {l S : List It} (h : Full f l) (hids : Ids S) (hp : l.Perm S) (id : Int) :
    (f id = none ∧ keyS S id = none) ∨ ∃ i : Nat, i < l.length ∧ f id = some (i : Int) ∧ (g l i).1 = id ∧ keyS S id = some (g l i).2 := by
  cases hf : f id with
  | none =>
    refine .inl ⟨rfl, keyS_none fun x hx e => ?_⟩
    obtain ⟨i, hi, hg⟩ := mem_g (hp.mem_iff.2 hx)
    have := (h id (i : Int)).2 ⟨i, rfl, hi, by rw [hg]; exact e⟩
    rw [hf] at this; cases this
  | some j =>
    obtain ⟨i, rfl, il, e⟩ := (h id j).1 hf
    exact .inr ⟨i, il, rfl, e, keyS_some hids (hp.mem_iff.1 (g_mem il)) e⟩
end Mile
