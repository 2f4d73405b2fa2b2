/- CRC-32C on rows of bits of 32: linear, injective, parity. -/
namespace Mile
abbrev B32 := BitVec 32

def cpoly : B32 := 0x82F63B78#32
def cstep (c : B32) : B32 := (c >>> 1) ^^^ (if c.getLsbD 0 then cpoly else 0#32)

def crounds : Nat → B32 → B32
  | 0, c => c
  | n + 1, c => crounds n (cstep c)

def cbyte (c : B32) (n : Int) : B32 := crounds 8 (c ^^^ BitVec.ofInt 32 n)
def crun (c : B32) (bs : List Int) : B32 := bs.foldl cbyte c
def csum (bs : List Int) : B32 := ~~~(crun (~~~0#32) bs)

theorem cstep_xor (a b : B32) : cstep (a ^^^ b) = cstep a ^^^ cstep b := by
  unfold cstep
  rw [BitVec.ushiftRight_xor_distrib, BitVec.getLsbD_xor]
  generalize a >>> 1 = x
  generalize b >>> 1 = y
  cases a.getLsbD 0 <;> cases b.getLsbD 0 <;> simp only [Bool.xor_self, Bool.false_xor, Bool.xor_false, Bool.false_eq_true, if_true, if_false, BitVec.xor_zero]
  · rw [BitVec.xor_assoc]
  · ac_rfl
  · have e : (x ^^^ cpoly) ^^^ (y ^^^ cpoly) = x ^^^ y ^^^ (cpoly ^^^ cpoly) := by ac_rfl
    rw [e, BitVec.xor_self, BitVec.xor_zero]

theorem crounds_xor : ∀ (n : Nat) (a b : B32), crounds n (a ^^^ b) = crounds n a ^^^ crounds n b
  | 0, _, _ => rfl
  | n + 1, a, b => by rw [crounds, cstep_xor, crounds_xor n]; rfl

theorem cstep_zero : cstep 0#32 = 0#32 := by decide
theorem crounds_zero : ∀ n, crounds n 0#32 = 0#32
  | 0 => rfl
  | n + 1 => by rw [crounds, cstep_zero]; exact crounds_zero n

theorem cstep_ker (a : B32) (h : cstep a = 0#32) : a = 0#32 := by
  unfold cstep at h
  have h31 : (a >>> 1 ^^^ if a.getLsbD 0 then cpoly else 0#32).getLsbD 31 = false := by rw [h]; simp
  rw [BitVec.getLsbD_xor] at h31
  have hs : (a >>> 1).getLsbD 31 = false := by simp
  rw [hs] at h31
  cases h0 : a.getLsbD 0 with
  | true => rw [h0] at h31; simp [cpoly] at h31
  | false =>
    rw [h0] at h
    have h : a >>> 1 = 0#32 := by simpa using h
    apply BitVec.eq_of_getLsbD_eq
    intro i hi
    rcases Nat.eq_zero_or_pos i with rfl | hp
    · rw [h0]; simp
    · have e : (a >>> 1).getLsbD (i - 1) = false := by rw [h]; simp
      rw [BitVec.getLsbD_ushiftRight, show 1 + (i - 1) = i by omega] at e
      simp [e]

theorem crounds_ker : ∀ (n : Nat) (a : B32), crounds n a = 0#32 → a = 0#32
  | 0, _, h => h
  | n + 1, a, h => cstep_ker a (crounds_ker n _ h)

theorem xor_eq_zero {a b : B32} (h : a ^^^ b = 0#32) : a = b := by
  have : a ^^^ b ^^^ b = 0#32 ^^^ b := by rw [h]
  rwa [BitVec.xor_assoc, BitVec.xor_self, BitVec.xor_zero, BitVec.zero_xor] at this

theorem crounds_inj {n : Nat} {a b : B32} (h : crounds n a = crounds n b) : a = b :=
  xor_eq_zero (crounds_ker n _ (by rw [crounds_xor, h, BitVec.xor_self]))

/-! parity -/
def parN : Nat → B32 → Bool
  | 0, _ => false
  | n + 1, c => parN n c ^^ c.getLsbD n
def par (c : B32) : Bool := parN 32 c

theorem parN_xor : ∀ (n : Nat) (a b : B32), parN n (a ^^^ b) = (parN n a ^^ parN n b)
  | 0, _, _ => rfl
  | n + 1, a, b => by
    rw [parN, parN_xor n, BitVec.getLsbD_xor]; simp only [parN]
    cases parN n a <;> cases parN n b <;> cases a.getLsbD n <;> cases b.getLsbD n <;> rfl
theorem par_xor (a b : B32) : par (a ^^^ b) = (par a ^^ par b) := parN_xor 32 a b
theorem parN_shift : ∀ (n : Nat) (c : B32), (parN n (c >>> 1) ^^ c.getLsbD 0) = parN (n + 1) c
  | 0, c => by simp [parN]
  | n + 1, c => by
    have := parN_shift n c
    rw [parN, BitVec.getLsbD_ushiftRight, parN, ← this, Nat.add_comm 1 n]
    cases parN n (c >>> 1) <;> cases c.getLsbD 0 <;> cases c.getLsbD (n + 1) <;> rfl
theorem par_step (c : B32) : par (cstep c) = par c := by
  have h := parN_shift 32 c
  have h33 : parN (32 + 1) c = parN 32 c := by rw [parN]; simp
  rw [h33] at h
  have h : (par (c >>> 1) ^^ c.getLsbD 0) = par c := h
  unfold cstep
  rw [par_xor, ← h]
  cases c.getLsbD 0 with
  | true => simp only [if_true]; rw [show par cpoly = true by decide]
  | false => simp only [Bool.false_eq_true, if_false]; rw [show par 0#32 = false by decide]
theorem par_rounds : ∀ (n : Nat) (c : B32), par (crounds n c) = par c
  | 0, _ => rfl
  | n + 1, c => by rw [crounds, par_rounds n, par_step]
def parL (bs : List Int) : Bool := bs.foldl (fun r n => r ^^ par (BitVec.ofInt 32 n)) false
theorem parL_from (bs : List Int) : ∀ r, bs.foldl (fun r n => r ^^ par (BitVec.ofInt 32 n)) r = (r ^^ parL bs) := by
  induction bs with
  | nil => intro r; simp [parL]
  | cons n l ih =>
    intro r
    have e : parL (n :: l) = ((false ^^ par (BitVec.ofInt 32 n)) ^^ parL l) := by rw [← ih]; rfl
    rw [List.foldl_cons, ih, e]
    cases r <;> cases par (BitVec.ofInt 32 n) <;> cases parL l <;> rfl
theorem par_run (bs : List Int) : ∀ c, par (crun c bs) = (par c ^^ parL bs) := by
  intro c
  rw [← parL_from]
  unfold crun
  induction bs generalizing c with
  | nil => rfl
  | cons n l ih =>
    rw [List.foldl_cons, List.foldl_cons, ih]
    congr 1
    rw [cbyte, par_rounds, par_xor]
theorem par_not (c : B32) : par (~~~c) = par c := by
  have e : ~~~c = c ^^^ (BitVec.allOnes 32) := (BitVec.xor_allOnes).symm
  rw [e, par_xor, show par (BitVec.allOnes 32) = false by decide]; simp
theorem par_sum (bs : List Int) : par (csum bs) = parL bs := by
  unfold csum
  rw [par_not, par_run, show par (~~~0#32) = false by decide]; simp

theorem crun_append (c : B32) (a b : List Int) : crun c (a ++ b) = crun (crun c a) b := by simp [crun]

/-- Two rows that part by an odd number of bits have unlike sums. -/
theorem csum_ne {a b : List Int} (h : parL a ≠ parL b) : csum a ≠ csum b := fun e => h (by rw [← par_sum, ← par_sum, e])

theorem xor3 (a b c x y z : B32) : (a ^^^ b ^^^ c) ^^^ (x ^^^ y ^^^ z) = (a ^^^ x) ^^^ (b ^^^ y) ^^^ (c ^^^ z) := by ac_rfl

theorem cbyte_xor3 (a b c : B32) (x y z : Int) (t : Int) (ht : BitVec.ofInt 32 t = BitVec.ofInt 32 x ^^^ BitVec.ofInt 32 y ^^^ BitVec.ofInt 32 z) :
    cbyte (a ^^^ b ^^^ c) t = cbyte a x ^^^ cbyte b y ^^^ cbyte c z := by
  unfold cbyte
  rw [← crounds_xor, ← crounds_xor, ht, xor3]

/-- The bytes' exclusive or. -/
def bxor (x y : Int) : Int := ((BitVec.ofInt 8 x ^^^ BitVec.ofInt 8 y).toNat : Int)

theorem ofInt_byte (x : Int) (h0 : 0 ≤ x) (h1 : x < 256) : BitVec.ofInt 32 x = (BitVec.ofInt 8 x).setWidth 32 := by
  obtain ⟨n, rfl⟩ := Int.eq_ofNat_of_zero_le h0
  apply BitVec.eq_of_toNat_eq
  simp
  omega
theorem bxor_32 (x y : Int) (hx : 0 ≤ x) (hx1 : x < 256) (hy : 0 ≤ y) (hy1 : y < 256) : BitVec.ofInt 32 (bxor x y) = BitVec.ofInt 32 x ^^^ BitVec.ofInt 32 y := by
  rw [ofInt_byte x hx hx1, ofInt_byte y hy hy1, ← BitVec.setWidth_xor]
  unfold bxor
  apply BitVec.eq_of_toNat_eq
  have := (BitVec.ofInt 8 x ^^^ BitVec.ofInt 8 y).isLt
  simp only [BitVec.toNat_setWidth]
  rw [show (BitVec.ofInt 32 ((BitVec.ofInt 8 x ^^^ BitVec.ofInt 8 y).toNat : Int)) = BitVec.ofNat 32 (BitVec.ofInt 8 x ^^^ BitVec.ofInt 8 y).toNat from by simp]
  simp only [BitVec.toNat_ofNat]
theorem bxor_range (x y : Int) : 0 ≤ bxor x y ∧ bxor x y < 256 := by
  unfold bxor
  have := (BitVec.ofInt 8 x ^^^ BitVec.ofInt 8 y).isLt
  omega

theorem crun_xor3 : ∀ (a b : List Int) (p q r : B32), a.length = b.length → (∀ x ∈ a, 0 ≤ x ∧ x < 256) → (∀ x ∈ b, 0 ≤ x ∧ x < 256) →
    crun (p ^^^ q ^^^ r) (List.zipWith bxor a b) = crun p a ^^^ crun q b ^^^ crun r (List.replicate a.length 0)
  | [], [], p, q, r, _, _, _ => rfl
  | x :: a, y :: b, p, q, r, h, ha, hb => by
    have hx := ha x (by simp)
    have hy := hb y (by simp)
    show crun (cbyte (p ^^^ q ^^^ r) (bxor x y)) (List.zipWith bxor a b) = crun (cbyte p x) a ^^^ crun (cbyte q y) b ^^^ crun (cbyte r 0) (List.replicate a.length 0)
    rw [cbyte_xor3 p q r x y 0 _ (by rw [bxor_32 x y hx.1 hx.2 hy.1 hy.2]; simp)]
    exact crun_xor3 a b _ _ _ (by simpa using h) (fun z hz => ha z (by simp [hz])) (fun z hz => hb z (by simp [hz]))

theorem csum_mixes (a b : List Int) (h : a.length = b.length) (ha : ∀ x ∈ a, 0 ≤ x ∧ x < 256) (hb : ∀ x ∈ b, 0 ≤ x ∧ x < 256) :
    csum (List.zipWith bxor a b) = csum a ^^^ csum b ^^^ csum (List.replicate a.length 0) := by
  unfold csum
  have e : (~~~0#32) = ~~~0#32 ^^^ ~~~0#32 ^^^ ~~~0#32 := by decide
  conv => lhs; rw [e]
  rw [crun_xor3 a b _ _ _ h ha hb]
  have n : ∀ x : B32, ~~~x = x ^^^ (BitVec.allOnes 32) := fun x => (BitVec.xor_allOnes).symm
  rw [n, n (crun _ a), n (crun _ b), n (crun _ (List.replicate _ _))]
  generalize crun (~~~0#32) a = x
  generalize crun (~~~0#32) b = y
  generalize crun (~~~0#32) (List.replicate a.length 0) = z
  rw [← xor3]
  congr 1

/-! four bytes -/
theorem cstep_up (v : B32) (h : v.getLsbD 31 = false) : cstep (v <<< 1) = v := by
  unfold cstep
  have h0 : (v <<< 1).getLsbD 0 = false := by simp
  rw [h0]
  simp only [Bool.false_eq_true, if_false, BitVec.xor_zero]
  apply BitVec.eq_of_getLsbD_eq
  intro i hi
  rw [BitVec.getLsbD_ushiftRight, BitVec.getLsbD_shiftLeft]
  by_cases h31 : i = 31
  · subst h31; rw [h]; simp
  · have : 1 + i < 32 := by omega
    simp [this]
theorem high_zero (v : B32) (i : Nat) (k : Nat) (h : v.toNat < 2 ^ k) (hk : k ≤ i) : v.getLsbD i = false := by
  rw [BitVec.getLsbD]
  exact Nat.testBit_lt_two_pow (Nat.lt_of_lt_of_le h (Nat.pow_le_pow_right (by omega) hk))
theorem crounds_up : ∀ (n : Nat) (v : B32), v.toNat < 2 ^ (32 - n) → n ≤ 32 → crounds n (v <<< n) = v
  | 0, v, _, _ => by simp [crounds]
  | n + 1, v, h, hn => by
    have e : v <<< (n + 1) = (v <<< n) <<< 1 := by rw [← BitVec.shiftLeft_add]
    rw [crounds, e, cstep_up]
    · exact crounds_up n v (Nat.lt_of_lt_of_le h (Nat.pow_le_pow_right (by omega) (by omega))) (by omega)
    · rw [BitVec.getLsbD_shiftLeft]
      by_cases h31 : 31 < n
      · simp [h31]
      · rw [high_zero v (31 - n) (32 - (n + 1)) h (by omega)]; simp
theorem shl8 (v : B32) (h : v.toNat < 2 ^ 24) : (v <<< 8).toNat = v.toNat * 256 := by
  rw [BitVec.toNat_shiftLeft, Nat.shiftLeft_eq]; omega
theorem low_high (d w : B32) (hd : d.toNat < 256) (hw : w.toNat < 2 ^ 24) (h : d ^^^ (w <<< 8) = 0#32) : d = 0#32 ∧ w = 0#32 := by
  have e := xor_eq_zero h
  have e2 := shl8 w hw
  rw [← e] at e2
  constructor <;> apply BitVec.eq_of_toNat_eq <;> simp <;> omega
theorem low_high_lt (d w : B32) (k : Nat) (hk : k ≤ 24) (hd : d.toNat < 256) (hw : w.toNat < 2 ^ k) : (d ^^^ (w <<< 8)).toNat < 2 ^ (k + 8) := by
  rw [BitVec.toNat_xor]
  have h24 : w.toNat < 2 ^ 24 := Nat.lt_of_lt_of_le hw (Nat.pow_le_pow_right (by omega) hk)
  refine Nat.xor_lt_two_pow (Nat.lt_of_lt_of_le hd (by rw [show (256 : Nat) = 2 ^ 8 by rfl]; exact Nat.pow_le_pow_right (by omega) (by omega))) ?_
  rw [shl8 w h24, Nat.pow_add]
  omega

theorem byte_step (s t : B32) (a b : Int) (w : B32) (hw : w.toNat < 2 ^ 24) (h : cbyte s a ^^^ cbyte t b = w) : s ^^^ t = (BitVec.ofInt 32 a ^^^ BitVec.ofInt 32 b) ^^^ (w <<< 8) := by
  unfold cbyte at h
  rw [← crounds_xor, ← crounds_up 8 w hw (by omega)] at h
  have h := crounds_inj h
  rw [← h]
  have e : s ^^^ BitVec.ofInt 32 a ^^^ (t ^^^ BitVec.ofInt 32 b) = (BitVec.ofInt 32 a ^^^ BitVec.ofInt 32 b) ^^^ (s ^^^ t) := by ac_rfl
  rw [e, ← BitVec.xor_assoc, BitVec.xor_self, BitVec.zero_xor]

theorem dlt (a b : Int) (ha : 0 ≤ a ∧ a < 256) (hb : 0 ≤ b ∧ b < 256) : (BitVec.ofInt 32 a ^^^ BitVec.ofInt 32 b).toNat < 256 := by
  rw [← bxor_32 a b ha.1 ha.2 hb.1 hb.2]
  have := bxor_range a b
  obtain ⟨n, hn⟩ := Int.eq_ofNat_of_zero_le this.1
  rw [hn] at this ⊢
  simp; omega
theorem dzero (a b : Int) (ha : 0 ≤ a ∧ a < 256) (hb : 0 ≤ b ∧ b < 256) (h : BitVec.ofInt 32 a ^^^ BitVec.ofInt 32 b = 0#32) : a = b := by
  have e := xor_eq_zero h
  obtain ⟨n, rfl⟩ := Int.eq_ofNat_of_zero_le ha.1
  obtain ⟨m, rfl⟩ := Int.eq_ofNat_of_zero_le hb.1
  have := congrArg BitVec.toNat e
  simp at this
  omega

theorem csum_four (a b c d a' b' c' d' : Int) (ha : 0 ≤ a ∧ a < 256) (hb : 0 ≤ b ∧ b < 256) (hc : 0 ≤ c ∧ c < 256) (hd : 0 ≤ d ∧ d < 256)
    (ha' : 0 ≤ a' ∧ a' < 256) (hb' : 0 ≤ b' ∧ b' < 256) (hc' : 0 ≤ c' ∧ c' < 256) (hd' : 0 ≤ d' ∧ d' < 256)
    (h : csum [a, b, c, d] = csum [a', b', c', d']) : a = a' ∧ b = b' ∧ c = c' ∧ d = d' := by
  have h : crun (~~~0#32) [a, b, c, d] = crun (~~~0#32) [a', b', c', d'] := by
    have := congrArg (fun x : B32 => ~~~x) h
    simpa [csum] using this
  have h : cbyte (cbyte (cbyte (cbyte (~~~0#32) a) b) c) d ^^^ cbyte (cbyte (cbyte (cbyte (~~~0#32) a') b') c') d' = 0#32 := by
    have h : cbyte (cbyte (cbyte (cbyte (~~~0#32) a) b) c) d = cbyte (cbyte (cbyte (cbyte (~~~0#32) a') b') c') d' := h
    rw [h, BitVec.xor_self]
  have w0 : (0#32).toNat < 2 ^ 0 := by decide
  have k3 := byte_step _ _ _ _ _ (by decide) h
  have w3 := low_high_lt _ 0#32 0 (by omega) (dlt d d' hd hd') w0
  have k2 := byte_step _ _ _ _ _ (by omega) k3
  have w2 := low_high_lt _ _ _ (by omega) (dlt c c' hc hc') w3
  have k1 := byte_step _ _ _ _ _ (by omega) k2
  have w1 := low_high_lt _ _ _ (by omega) (dlt b b' hb hb') w2
  have k0 := byte_step _ _ _ _ _ (by omega) k1
  rw [BitVec.xor_self] at k0
  obtain ⟨z0, r0⟩ := low_high _ _ (dlt a a' ha ha') (by omega) k0.symm
  obtain ⟨z1, r1⟩ := low_high _ _ (dlt b b' hb hb') (by omega) r0
  obtain ⟨z2, r2⟩ := low_high _ _ (dlt c c' hc hc') (by omega) r1
  obtain ⟨z3, r3⟩ := low_high _ _ (dlt d d' hd hd') (by decide) r2
  exact ⟨dzero a a' ha ha' z0, dzero b b' hb hb' z1, dzero c c' hc hc' z2, dzero d d' hd hd' z3⟩
theorem parL_cons (n : Int) (l : List Int) : parL (n :: l) = (par (BitVec.ofInt 32 n) ^^ parL l) := by
  show (List.foldl _ _ _) = _
  rw [List.foldl_cons, parL_from]; simp
theorem parL_set (l : List Int) : ∀ (i : Nat) (y : Int) (h : i < l.length), parL (l.set i y) = (parL l ^^ par (BitVec.ofInt 32 l[i]) ^^ par (BitVec.ofInt 32 y)) := by
  induction l with
  | nil => intro i y h; simp at h
  | cons n l ih =>
    intro i y h
    cases i with
    | zero =>
      simp only [List.set_cons_zero, List.getElem_cons_zero, parL_cons]
      cases par (BitVec.ofInt 32 n) <;> cases par (BitVec.ofInt 32 y) <;> cases parL l <;> rfl
    | succ i =>
      simp only [List.set_cons_succ, List.getElem_cons_succ, parL_cons, ih i y (by simpa using h)]
      generalize par (BitVec.ofInt 32 (l[i]'_)) = q
      cases par (BitVec.ofInt 32 n) <;> cases par (BitVec.ofInt 32 y) <;> cases parL l <;> cases q <;> rfl

/-- One bit turned. -/
theorem parL_turn (l : List Int) (i : Nat) (r : Nat) (h : i < l.length) (hr : r < 8) (hb : ∀ x ∈ l, 0 ≤ x ∧ x < 256) : parL (l.set i (bxor l[i] (2 ^ r))) = !parL l := by
  have hi := hb _ (List.getElem_mem h)
  rw [parL_set l i _ h, bxor_32 _ _ hi.1 hi.2 (by have : r = 0 ∨ r = 1 ∨ r = 2 ∨ r = 3 ∨ r = 4 ∨ r = 5 ∨ r = 6 ∨ r = 7 := by omega
                                                  rcases this with rfl | rfl | rfl | rfl | rfl | rfl | rfl | rfl <;> decide)
    (by have : r = 0 ∨ r = 1 ∨ r = 2 ∨ r = 3 ∨ r = 4 ∨ r = 5 ∨ r = 6 ∨ r = 7 := by omega
        rcases this with rfl | rfl | rfl | rfl | rfl | rfl | rfl | rfl <;> decide), par_xor]
  have hp : par (BitVec.ofInt 32 (2 ^ r)) = true := by
    have : r = 0 ∨ r = 1 ∨ r = 2 ∨ r = 3 ∨ r = 4 ∨ r = 5 ∨ r = 6 ∨ r = 7 := by omega
    rcases this with rfl | rfl | rfl | rfl | rfl | rfl | rfl | rfl <;> decide
  rw [hp]
  cases parL l <;> cases par (BitVec.ofInt 32 l[i]) <;> rfl

theorem bytes_set {l : List Int} (hb : ∀ x ∈ l, 0 ≤ x ∧ x < 256) (i : Nat) (x y : Int) : ∀ z ∈ l.set i (bxor x y), 0 ≤ z ∧ z < 256 := by
  intro z hz
  rcases List.mem_or_eq_of_mem_set hz with h | rfl
  · exact hb z h
  · exact bxor_range x y
end Mile
