/- Plain mathematics of octets: a number's bytes, high one first; what Nums and Num come to. -/
namespace Mile

/-- The k bytes of a number, the high one first. -/
def digs (x : Int) : Nat → List Int
  | 0 => []
  | k + 1 => (x / 2 ^ (8 * k)) % 256 :: digs x k

theorem digs_length (x : Int) (k : Nat) : (digs x k).length = k := by
  induction k with
  | zero => rfl
  | succ k ih => simp [digs, ih]

theorem digs_range (x : Int) (k : Nat) : ∀ b ∈ digs x k, 0 ≤ b ∧ b < 256 := by
  induction k with
  | zero => simp [digs]
  | succ k ih =>
    intro b hb
    simp only [digs, List.mem_cons] at hb
    rcases hb with rfl | hb
    · omega
    · exact ih b hb

def fits (s : Nat) (n : Int) : Bool := decide (0 ≤ n ∧ n < 2 ^ (8 * s))

/-- Numbers behind bytes; none: one does not fit. -/
def numsL (s : Nat) : List Int → List Int → Option (List Int)
  | bs, [] => some bs
  | bs, n :: r => if fits s n then numsL s (bs ++ digs n s) r else none

def sizeOk (size : Int) : Bool := decide (1 ≤ size ∧ size ≤ 7)

/-- What a Writer holds behind Nums: none: it is spoilt. -/
def numsS (size : Int) (ns : List Int) (s : Option (List Int)) : Option (List Int) :=
  s.bind fun bs => if sizeOk size then numsL size.toNat bs ns else none

theorem numsL_length (s : Nat) : ∀ (ns bs cs : List Int), numsL s bs ns = some cs → cs.length = bs.length + s * ns.length := by
  intro ns
  induction ns with
  | nil => intro bs cs h; simp [numsL] at h; subst h; simp
  | cons n r ih =>
    intro bs cs h
    simp only [numsL] at h
    split at h
    · have := ih _ _ h
      simp [digs_length] at this
      simp [this, Nat.mul_add]; omega
    · cases h

theorem numsL_append (s : Nat) : ∀ (ns bs ms : List Int), numsL s bs (ns ++ ms) = (numsL s bs ns).bind fun cs => numsL s cs ms := by
  intro ns
  induction ns with
  | nil => intro bs ms; simp [numsL]
  | cons n r ih =>
    intro bs ms
    simp only [numsL, List.cons_append]
    split
    · exact ih _ _
    · rfl

/-- What bytes tell as a number, the high one first. -/
def undigs (acc : Int) (bs : List Int) : Int := bs.foldl (fun n b => n * 256 + b) acc

theorem undigs_nonneg : ∀ (bs : List Int) (acc : Int), 0 ≤ acc → (∀ b ∈ bs, 0 ≤ b ∧ b < 256) → 0 ≤ undigs acc bs := by
  intro bs
  induction bs with
  | nil => intro acc h _; simpa [undigs] using h
  | cons b r ih =>
    intro acc h hb
    have := hb b (by simp)
    exact ih (acc * 256 + b) (by omega) (fun c hc => hb c (by simp [hc]))

theorem undigs_bound : ∀ (bs : List Int) (acc : Int), 0 ≤ acc → (∀ b ∈ bs, 0 ≤ b ∧ b < 256) → undigs acc bs < (acc + 1) * 256 ^ bs.length := by
  intro bs
  induction bs with
  | nil => intro acc h _; simp [undigs]; omega
  | cons b r ih =>
    intro acc h hb
    have h1 := hb b (by simp)
    have := ih (acc * 256 + b) (by omega) (fun c hc => hb c (by simp [hc]))
    have e : undigs acc (b :: r) = undigs (acc * 256 + b) r := rfl
    rw [e]
    refine Int.lt_of_lt_of_le this ?_
    rw [List.length_cons, Int.pow_succ, Int.mul_comm (256 ^ r.length) 256, ← Int.mul_assoc]
    exact Int.mul_le_mul_of_nonneg_right (by omega) (Int.le_of_lt (Int.pow_pos (by omega)))

theorem emod_step (x P : Int) (hP : 0 < P) : x % (P * 256) = x % P + P * (x / P % 256) := by
  have h1 := Int.mul_ediv_add_emod x P
  have h2 := Int.emod_lt_of_pos x hP
  have h3 := Int.emod_nonneg x (show P ≠ 0 by omega)
  have h4 := Int.mul_ediv_add_emod (x / P) 256
  have h5 : 0 ≤ x / P % 256 := Int.emod_nonneg _ (by omega)
  have h6 : x / P % 256 < 256 := Int.emod_lt_of_pos _ (by omega)
  generalize x / P % 256 = r at *
  generalize x / P / 256 = q at *
  refine ((Int.ediv_emod_unique (a := x) (b := P * 256) (q := q) (Int.mul_pos hP (by omega))).2 ⟨?_, ?_, ?_⟩).2
  · have e : P * (x / P) = P * 256 * q + P * r := by rw [← h4, Int.mul_add, Int.mul_assoc]
    omega
  · have := Int.mul_nonneg (Int.le_of_lt hP) h5
    omega
  · have : P * r ≤ P * 255 := Int.mul_le_mul_of_nonneg_left (by omega) (by omega)
    omega

theorem undigs_digs (x : Int) : ∀ (k : Nat) (acc : Int), undigs acc (digs x k) = acc * 2 ^ (8 * k) + x % 2 ^ (8 * k) := by
  intro k
  induction k with
  | zero => intro acc; simp [undigs, digs, Int.emod_one]
  | succ k ih =>
    intro acc
    have e : undigs acc (digs x (k + 1)) = undigs (acc * 256 + (x / 2 ^ (8 * k)) % 256) (digs x k) := rfl
    rw [e, ih]
    have hp : (0 : Int) < 2 ^ (8 * k) := Int.pow_pos (by omega)
    have h2 : (2 : Int) ^ (8 * (k + 1)) = 2 ^ (8 * k) * 256 := by
      rw [show 8 * (k + 1) = 8 * k + 8 from by omega, Int.pow_add]; rfl
    rw [h2]
    generalize (2 : Int) ^ (8 * k) = P at *
    have h3 := emod_step x P hp
    rw [h3, Int.add_mul, Int.mul_assoc, Int.mul_comm 256 P, Int.mul_comm (x / P % 256) P]
    omega

theorem undigs_digs_fit (x : Int) (k : Nat) (h : fits k x = true) : undigs 0 (digs x k) = x := by
  simp only [fits, decide_eq_true_eq] at h
  rw [undigs_digs, Int.zero_mul, Int.zero_add, Int.emod_eq_of_lt h.1 h.2]

/-- The bytes of many numbers, one behind the other. -/
def enc (t : Nat) (ls : List Int) : List Int := ls.flatMap (fun x => digs x t)

theorem enc_length (t : Nat) (ls : List Int) : (enc t ls).length = t * ls.length := by
  unfold enc
  induction ls with
  | nil => simp
  | cons x r ih => simp [List.flatMap_cons, digs_length, ih, Nat.mul_add]; omega

theorem enc_range (t : Nat) (ls : List Int) : ∀ b ∈ enc t ls, 0 ≤ b ∧ b < 256 := by
  intro b hb
  unfold enc at hb
  obtain ⟨x, _, hx⟩ := List.mem_flatMap.1 hb
  exact digs_range x t b hx

theorem numsL_enc (t : Nat) : ∀ (ls bs : List Int), (∀ x ∈ ls, fits t x = true) → numsL t bs ls = some (bs ++ enc t ls) := by
  intro ls
  induction ls with
  | nil => intro bs _; simp [numsL, enc]
  | cons x r ih =>
    intro bs h
    rw [numsL, if_pos (h x (by simp)), ih _ (fun y hy => h y (by simp [hy]))]
    simp [enc, List.flatMap_cons]

theorem enc_snoc (t : Nat) (ls : List Int) (j : Nat) (h : j < ls.length) : enc t (ls.take (j + 1)) = enc t (ls.take j) ++ digs ls[j] t := by
  unfold enc
  rw [List.take_succ_eq_append_getElem h, List.flatMap_append]
  simp only [List.flatMap_cons, List.flatMap_nil, List.append_nil]

theorem enc_drop (t : Nat) (ls : List Int) (j : Nat) (h : j < ls.length) : enc t (ls.drop j) = digs ls[j] t ++ enc t (ls.drop (j + 1)) := by
  unfold enc
  rw [List.drop_eq_getElem_cons h, List.flatMap_cons]

theorem pow256_le (k : Nat) (h : k ≤ 6) : (256 : Int) ^ k ≤ 281474976710656 := by
  have : k = 0 ∨ k = 1 ∨ k = 2 ∨ k = 3 ∨ k = 4 ∨ k = 5 ∨ k = 6 := by omega
  rcases this with rfl | rfl | rfl | rfl | rfl | rfl | rfl <;> decide

theorem undigs_take (L : List Int) (k : Nat) (h : k < L.length) : undigs 0 (L.take (k + 1)) = undigs 0 (L.take k) * 256 + L[k] := by
  rw [List.take_succ_eq_append_getElem h]
  unfold undigs
  rw [List.foldl_append]
  rfl

end Mile
