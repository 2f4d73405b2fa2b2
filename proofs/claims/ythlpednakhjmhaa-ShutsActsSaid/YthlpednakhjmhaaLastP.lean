/- Edges that lapse, as plain lists; a variable of eight numbers. -/
import Derived.Test.YthlpednakhjmhaaAloneP
import Derived.Test.YthlpednakhjmhaaEvF
namespace Mile
open Go Go.RowKit
/-- The variable at block q: eight numbers. -/
def Q8 (T : TypeId) (w : World) (q : Nat) (g : Nat → Int) : Prop := Blk w q T ((List.range 8).map fun k => Value.int .i64 (g k))
theorem Q8.cell {T : TypeId} {w : World} {q : Nat} {g : Nat → Int} (h : Q8 T w q g) (e : Nat) (he : e < 8) : w.cell? ⟨q, e, none⟩ = some (.int .i64 (g e)) := Blk.cell h e (by simp [he])
theorem Q8.free {T : TypeId} {w : World} {q : Nat} {g : Nat → Int} (h : Q8 T w q g) (e : Nat) : w.frozen? ⟨q, e, none⟩ = false := Blk.free h e
theorem Q8.keep {T : TypeId} {F : Nat → Prop} {w w' : World} {q : Nat} {g : Nat → Int} (h : Q8 T w q g) (hm : Mod F w w') (hq : ¬ F q) : Q8 T w' q g := Blk.keep h hm hq
theorem Q8.lt {T : TypeId} {w : World} {q : Nat} {g : Nat → Int} (h : Q8 T w q g) : q < w.heap.size := Blk.lt h
theorem Q8.set {T : TypeId} {w : World} {q : Nat} {g : Nat → Int} (h : Q8 T w q g) (e : Nat) (u : Int) (g' : Nat → Int) (hg : ∀ k, k < 8 → g' k = if k = e then u else g k) : Q8 T (w.setCell ⟨q, e, none⟩ (.int .i64 u)) q g' := by
  have := Blk.set h e (.int .i64 u)
  unfold Q8
  have he : ((List.range 8).map fun k => Value.int .i64 (g' k)) = ((List.range 8).map fun k => Value.int .i64 (g k)).set e (.int .i64 u) := by
    refine List.ext_getElem (by simp) fun i h1 h2 => ?_
    have hi : i < 8 := by simpa using h1
    rw [List.getElem_set]
    simp only [List.getElem_map, List.getElem_range]
    rw [hg i hi]
    by_cases hie : i = e
    · subst hie; simp
    · rw [if_neg hie, if_neg (Ne.symm hie)]
  rw [he]; exact this
theorem Q8.as {T : TypeId} {w : World} {q : Nat} {g g' : Nat → Int} (h : Q8 T w q g) (hg : ∀ k, k < 8 → g' k = g k) : Q8 T w q g' := by
  have he : ((List.range 8).map fun k => Value.int .i64 (g' k)) = (List.range 8).map fun k => Value.int .i64 (g k) := List.map_congr_left fun k hk => by rw [hg k (List.mem_range.1 hk)]
  unfold Q8; rw [he]; exact h
def castN (L : List Nat) : List Int := L.map fun k : Nat => (k : Int)
/-- Those whose time is just this. -/
def overE (us : List Int) (n : Nat) (t : Int) : List Nat := (List.range n).filter fun k => us.getD k 0 == t
theorem over_eq (us : List Int) (n : Nat) (t : Int) (ht : 1 ≤ t) (h : ∀ k, k < n → us.getD k 0 = 0 ∨ t ≤ us.getD k 0) : overL t (allK us n) = castN (overE us n t) := by
  unfold overL allK overE castN
  rw [List.filter_map, List.map_map, List.filter_filter]
  have : (List.range n).filter (fun a => ((fun x : Int × Int => decide (x.2 ≤ t)) ∘ fun i : Nat => ((i : Int), us.getD i 0)) a && us.getD a 0 != 0) = (List.range n).filter fun k => us.getD k 0 == t := by
    refine List.filter_congr fun k hk => ?_
    have h0 := h k (List.mem_range.1 hk)
    show (decide (us.getD k 0 ≤ t) && us.getD k 0 != 0) = (us.getD k 0 == t)
    generalize us.getD k 0 = v at h0 ⊢
    rcases h0 with h1 | h1
    · subst h1
      have : ¬ (0 : Int) = t := by omega
      rw [beq_eq_false_iff_ne.2 this]; simp
    · by_cases h2 : v = t
      · subst h2; have : ¬ v = 0 := by omega
        simp [this]
      · have h3 : ¬ v ≤ t := by omega
        rw [beq_eq_false_iff_ne.2 h2]; simp [h3]
  rw [this]; rfl
theorem overE_nodup (us : List Int) (n : Nat) (t : Int) : (overE us n t).Nodup := List.Pairwise.filter _ List.nodup_range
theorem overE_rise (us : List Int) (n : Nat) (t : Int) : (castN (overE us n t)).Pairwise (· ≤ ·) := by
  unfold castN overE
  rw [List.pairwise_map]
  exact (List.Pairwise.filter _ List.pairwise_lt_range).imp (fun h => by omega)
theorem overE_mem {us : List Int} {n : Nat} {t : Int} {k : Nat} : k ∈ overE us n t ↔ k < n ∧ us.getD k 0 = t := by
  unfold overE; rw [List.mem_filter, List.mem_range, beq_iff_eq]
theorem getD_set0 (us : List Int) (x k : Nat) : (us.set x 0).getD k 0 = if k = x then 0 else us.getD k 0 := by
  unfold List.getD
  rw [List.getElem?_set]
  by_cases h : x = k
  · subst h; simp; split <;> rfl
  · rw [if_neg h, if_neg (Ne.symm h)]
theorem turn_all : ∀ (L : List Nat) (us : List Int), L.Nodup → (∀ k ∈ L, us.getD k 0 ≠ 0) → turnL 0 us (castN L) = castN L
  | [], _, _, _ => rfl
  | x :: l, us, hn, h => by
    have hx := h x (by simp)
    have hn2 := List.nodup_cons.1 hn
    have ih := turn_all l (us.set x 0) hn2.2 (fun k hk => by
      rw [getD_set0, if_neg (fun (e : k = x) => hn2.1 (by rw [← e]; exact hk))]; exact h k (by simp [hk]))
    show turnL 0 us ((x : Int) :: castN l) = (x : Int) :: castN l
    simp only [turnL, show ((x : Int)).toNat = x from rfl]
    rw [ih, beq_eq_false_iff_ne.2 hx]; rfl
theorem put_all : ∀ (L : List Nat) (us : List Int) (k : Nat), (putU 0 us (castN L)).getD k 0 = if k ∈ L then 0 else us.getD k 0
  | [], us, k => by simp [castN, putU]
  | x :: l, us, k => by
    show (putU 0 (us.set ((x : Int)).toNat 0) (castN l)).getD k 0 = _
    rw [show ((x : Int)).toNat = x from rfl, put_all l, getD_set0]
    by_cases h1 : k ∈ l
    · simp [h1]
    · by_cases h2 : k = x
      · simp [h2]
      · simp [h1, h2]
theorem overE_split (us : List Int) (n e : Nat) (t : Int) (he : e < n) : overE us n t = overE us e t ++ ((if us.getD e 0 == t then [e] else []) ++ ((List.range (n - (e + 1))).map (fun x => e + 1 + x)).filter fun k => us.getD k 0 == t) := by
  obtain ⟨r, rfl⟩ : ∃ r, n = e + 1 + r := ⟨n - (e + 1), by omega⟩
  unfold overE
  rw [List.range_add, List.filter_append, List.range_succ, List.filter_append, List.append_assoc, show e + 1 + r - (e + 1) = r by omega]
  congr 1
  congr 1
  by_cases h : us.getD e 0 == t <;> simp only [h, List.filter_cons, List.filter_nil] <;> simp
theorem overE_at (us : List Int) (n e : Nat) (t : Int) (he : e < n) (h : us.getD e 0 = t) : (overE us n t)[(overE us e t).length]? = some e := by
  rw [overE_split us n e t he, List.getElem?_append_right (Nat.le_refl _), Nat.sub_self, if_pos (by simpa using h)]; rfl
theorem overE_succ (us : List Int) (e : Nat) (t : Int) : (overE us (e + 1) t).length = (overE us e t).length + if us.getD e 0 == t then 1 else 0 := by
  unfold overE
  rw [List.range_succ, List.filter_append, List.length_append]
  by_cases h : us.getD e 0 == t <;> simp only [h, List.filter_cons, List.filter_nil] <;> simp
theorem overE_le (us : List Int) (n e : Nat) (t : Int) (he : e ≤ n) : (overE us e t).length ≤ (overE us n t).length := by
  unfold overE
  obtain ⟨r, rfl⟩ : ∃ r, n = e + r := ⟨n - e, by omega⟩
  rw [List.range_add, List.filter_append, List.length_append]; omega
theorem overE_len (us : List Int) (n : Nat) (t : Int) : (overE us n t).length ≤ n := by
  unfold overE; exact Nat.le_trans (List.length_filter_le _ _) (by simp)
theorem getD_set1 (us : List Int) (x k : Nat) (u : Int) (hx : x < us.length) : (us.set x u).getD k 0 = if k = x then u else us.getD k 0 := by
  unfold List.getD
  rw [List.getElem?_set]
  by_cases h : x = k
  · subst h; simp [hx]
  · rw [if_neg h, if_neg (Ne.symm h)]
/-- Of each of the eight: it has no time, or one from t on. -/
def Tm (us : List Int) (t : Int) : Prop := ∀ k, k < 8 → us.getD k 0 = 0 ∨ t ≤ us.getD k 0
theorem Tm.set {us : List Int} {t : Int} (h : Tm us t) (e : Nat) (u : Int) (hu : u = 0 ∨ t ≤ u) : Tm (us.set e u) t := fun k hk => by
  have := h k hk
  unfold List.getD at this ⊢
  rw [List.getElem?_set]
  split
  · split <;> simp <;> omega
  · exact this
theorem Tm.zero (n : Nat) (t : Int) : Tm (List.replicate n 0) t := fun k _ => .inl (by
  by_cases h : k < n <;> simp [List.getD, List.getElem?_replicate, h])
/-- Behind the act at tick t. -/
def LsSt (T : TypeId) (p q : Nat) (t : Int) (w0 wx : World) (SOx : World → List Int → Prop) : Prop := ∃ us, Tm us t ∧ SOx wx us ∧ Q8 T wx q (fun k => us.getD k 0) ∧ Mod (fun k => k = p ∨ k = q) w0 wx
end Mile
namespace Go.Proofs.Ythlpednakhjmhaa
open Go.RowKit Mile
set_option maxRecDepth 100000
theorem closedB_gd (us : List Int) (n e : Nat) (hl : us.length = 512) (hn : e < n) (h5 : n ≤ 512) : closedB us n (e : Int) = (us.getD e 0 != 0) := by
  rw [closedB_at us n e (by omega) hn]
  have he : e < us.length := by omega
  simp [List.getD, he]
theorem castN_len (L : List Nat) : (castN L).length = L.length := by unfold castN; simp
theorem lapse_q (p : Nat) (us : List Int) (w : World) (h : SO w p 8 us) (t : Nat) (ht : 1 ≤ t) (hT : Tm us (t : Int)) :
    Calls Try.prog 15 #[.pointer (some ⟨p, 0, none⟩), .int .i64 (t : Int)] w fun e w' => ∃ a c us', e = .returned (.slice a (overE us 8 t).length c) ∧ Rd w' 1 (.slice a (overE us 8 t).length c) (overE us 8 t).length ((castN (overE us 8 t)).map (Value.int .i64)) ∧ (∀ k, (Value.slice a (overE us 8 t).length c).ownBlock = some k → w.heap.size ≤ k) ∧ SO w' p 8 us' ∧ (∀ k, k < 8 → us'.getD k 0 = if us.getD k 0 = (t : Int) then 0 else us.getD k 0) ∧ Tm us' (t + 1) ∧ Mod (fun k => k = p) w w' := by
  have hov := over_eq us 8 (t : Int) (by omega) hT
  have htn : turnL 0 us (castN (overE us 8 t)) = castN (overE us 8 t) := turn_all _ us (overE_nodup _ _ _) (fun k hk => by have := (overE_mem.1 hk).2; omega)
  refine (lapse_any p 8 us w h (t : Int)).mono ?_
  rintro e w' ⟨v, rfl, ho, hs, hm⟩
  rw [hov, htn, castN_len, srtI_eq (List.Perm.refl _) (overE_rise us 8 t)] at ho
  rw [hov] at hs
  obtain ⟨a, c, rfl⟩ := own_form ho
  have hg : ∀ k, k < 8 → (putU 0 us (castN (overE us 8 t))).getD k 0 = if us.getD k 0 = (t : Int) then 0 else us.getD k 0 := fun k hk => by
    rw [put_all]
    by_cases e : us.getD k 0 = (t : Int)
    · rw [if_pos (overE_mem.2 ⟨hk, e⟩), if_pos e]
    · rw [if_neg (fun hh => e (overE_mem.1 hh).2), if_neg e]
  refine ⟨a, c, _, rfl, Rd.ofOwn ho, fun k hk => (ho.lt k hk).1, hs, hg, fun k hk => ?_, hm⟩
  rw [hg k hk]
  rcases hT k hk with h1 | h1
  · left; split <;> omega
  · split
    · exact .inl rfl
    · right; omega
end Go.Proofs.Ythlpednakhjmhaa
