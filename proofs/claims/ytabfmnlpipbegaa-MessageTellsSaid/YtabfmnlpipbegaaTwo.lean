/- A sum behind its bytes: one to three turned bits, in the bytes or in the sum, are seen. -/
import Derived.Test.YtabfmnlpipbegaaCrc
namespace Mile

theorem crounds_add : ∀ (n m : Nat) (c : B32), crounds (n + m) c = crounds m (crounds n c)
  | 0, m, c => by simp [crounds]
  | n + 1, m, c => by rw [show n + 1 + m = (n + m) + 1 by omega, crounds, crounds_add n m, crounds]
theorem cbyte_diff (c d : B32) (x : Int) : cbyte (c ^^^ d) x = cbyte c x ^^^ crounds 8 d := by
  unfold cbyte
  rw [← crounds_xor]
  congr 1
  ac_rfl
theorem crun_diff : ∀ (l : List Int) (c d : B32), crun (c ^^^ d) l = crun c l ^^^ crounds (8 * l.length) d
  | [], c, d => rfl
  | x :: l, c, d => by
    show crun (cbyte (c ^^^ d) x) l = crun (cbyte c x) l ^^^ _
    rw [cbyte_diff, crun_diff l, ← crounds_add, List.length_cons, show 8 * (l.length + 1) = 8 + 8 * l.length by omega]
def sg (N : Nat) : B32 := crounds N 2147483648#32
theorem sg_add (N M : Nat) : crounds M (sg N) = sg (N + M) := by unfold sg; rw [crounds_add]
theorem pow_sg : ∀ r, r < 8 → ∀ k, k < 4 → (BitVec.ofInt 32 (2 ^ r)) <<< (8 * k) = sg (31 - r - 8 * k) := by decide +kernel
theorem pow_byte {r : Nat} (h : r < 8) : (0 : Int) ≤ 2 ^ r ∧ (2 : Int) ^ r < 256 := by
  have : r = 0 ∨ r = 1 ∨ r = 2 ∨ r = 3 ∨ r = 4 ∨ r = 5 ∨ r = 6 ∨ r = 7 := by omega
  rcases this with rfl | rfl | rfl | rfl | rfl | rfl | rfl | rfl <;> decide
theorem bxor_pow {x : Int} {r : Nat} (hx : 0 ≤ x ∧ x < 256) (hr : r < 8) : BitVec.ofInt 32 (bxor x (2 ^ r)) = BitVec.ofInt 32 x ^^^ sg (31 - r) := by
  have h := pow_sg r hr 0 (by omega)
  rw [Nat.mul_zero, BitVec.shiftLeft_zero, Nat.sub_zero] at h
  rw [bxor_32 x _ hx.1 hx.2 (pow_byte hr).1 (pow_byte hr).2, h]
theorem csum_flip {l : List Int} {q r : Nat} (hq : q < l.length) (hr : r < 8) (hb : ∀ x ∈ l, 0 ≤ x ∧ x < 256) : csum (l.set q (bxor l[q] (2 ^ r))) = csum l ^^^ sg (31 - r + 8 * (l.length - q)) := by
  have e0 : l = l.take q ++ l[q] :: l.drop (q + 1) := by rw [← List.drop_eq_getElem_cons hq, List.take_append_drop]
  have e1 : l.set q (bxor l[q] (2 ^ r)) = l.take q ++ bxor l[q] (2 ^ r) :: l.drop (q + 1) := List.set_eq_take_append_cons_drop.trans (if_pos hq)
  have hx := hb _ (List.getElem_mem hq)
  have hl : (l.drop (q + 1)).length = l.length - q - 1 := by rw [List.length_drop]; omega
  unfold csum
  have key : crun (~~~0#32) (l.set q (bxor l[q] (2 ^ r))) = crun (~~~0#32) l ^^^ sg (31 - r + 8 * (l.length - q)) := by
    conv => rhs; rw [e0]
    rw [e1, crun_append, crun_append]
    show crun (cbyte (crun (~~~0#32) (l.take q)) (bxor l[q] (2 ^ r))) (l.drop (q + 1)) = crun (cbyte (crun (~~~0#32) (l.take q)) l[q]) (l.drop (q + 1)) ^^^ _
    have hc : ∀ c : B32, cbyte c (bxor l[q] (2 ^ r)) = cbyte c l[q] ^^^ crounds 8 (sg (31 - r)) := fun c => by
      unfold cbyte
      rw [bxor_pow hx hr, ← crounds_xor, BitVec.xor_assoc]
    rw [hc, crun_diff, sg_add, sg_add, hl]
    congr 2
    simp only [List.length_append, List.length_cons, List.length_take, List.length_drop]
    omega
  rw [key]
  have n : ∀ x : B32, ~~~x = x ^^^ (BitVec.allOnes 32) := fun x => (BitVec.xor_allOnes).symm
  rw [n, n (crun _ l)]
  ac_rfl

/-! the order -/
def stp (c : Nat) : Nat := if c % 2 = 1 then (c / 2) ^^^ 2197175160 else c / 2
theorem cstep_nat (x : B32) : (cstep x).toNat = stp x.toNat := by
  unfold cstep stp
  have h : x.getLsbD 0 = decide (x.toNat % 2 = 1) := by rw [BitVec.getLsbD, Nat.testBit_zero]
  rw [h, BitVec.toNat_xor, BitVec.toNat_ushiftRight, Nat.shiftRight_eq_div_pow]
  by_cases h1 : x.toNat % 2 = 1
  · rw [if_pos (by simpa using h1), if_pos h1]; rfl
  · rw [if_neg (by simpa using h1), if_neg h1]; simp
def itN : Nat → Nat → Nat
  | 0, c => c
  | n + 1, c => itN n (stp c)
theorem crounds_nat : ∀ (n : Nat) (c : B32), (crounds n c).toNat = itN n c.toNat
  | 0, _ => rfl
  | n + 1, c => by rw [crounds, itN, crounds_nat n, cstep_nat]
def chkN : Nat → Nat → Bool
  | 0, _ => true
  | k + 1, c => (stp c != 2147483648) && chkN k (stp c)
theorem chk_spec : ∀ (k c d : Nat), chkN k c = true → d + 1 ≤ k → itN (d + 1) c ≠ 2147483648
  | 0, c, d, _, h => by omega
  | k + 1, c, d, hc, h => by
    rw [chkN, Bool.and_eq_true] at hc
    cases d with
    | zero => exact (by simpa using hc.1 : stp c ≠ 2147483648)
    | succ d => exact chk_spec k (stp c) d hc.2 (by omega)
theorem chk_all : chkN 3400 2147483648 = true := by decide +kernel
theorem sg_ne {d : Nat} (h : d + 1 ≤ 3400) : sg (d + 1) ≠ 2147483648#32 := fun e => by
  have := chk_spec 3400 2147483648 d chk_all h
  apply this
  have h2 := crounds_nat (d + 1) 2147483648#32
  unfold sg at e
  rw [e] at h2
  exact h2.symm
theorem sg_inj {N M : Nat} (h : sg N = sg M) (hN : N ≤ 3400) (hM : M ≤ 3400) : N = M := by
  have key : ∀ a b : Nat, a ≤ b → b ≤ 3400 → sg a = sg b → a = b := fun a b hab hb e => by
    rcases Nat.lt_or_ge a b with g | g
    · obtain ⟨d, hd⟩ : ∃ d, b = (d + 1) + a := ⟨b - a - 1, by omega⟩
      have h3 : sg b = crounds a (sg (d + 1)) := by rw [sg_add, hd]
      rw [h3] at e
      have h4 : sg a = crounds a 2147483648#32 := rfl
      rw [h4] at e
      exact absurd (crounds_inj e).symm (sg_ne (by omega))
    · omega
  rcases Nat.le_total N M with g | g
  · exact key N M g hM h
  · exact (key M N g hN h.symm).symm

/-! the sum's own bytes -/
def tf (v : B32) (x : Int) : B32 := (v <<< 8) ^^^ BitVec.ofInt 32 x
def T4 (l : List Int) : B32 := l.foldl tf 0#32
theorem tf_nat {v : B32} {x : Int} (hv : v.toNat < 2 ^ 24) (hx : 0 ≤ x ∧ x < 256) : ((tf v x).toNat : Int) = v.toNat * 256 + x := by
  obtain ⟨y, hy⟩ := Int.eq_ofNat_of_zero_le hx.1
  subst hy
  have hy256 : y < 256 := by omega
  unfold tf
  rw [BitVec.toNat_xor, shl8 v hv]
  have h1 : (BitVec.ofInt 32 (y : Int)).toNat = y := by simp; omega
  rw [h1]
  have h2 : v.toNat * 256 ^^^ y = v.toNat * 256 + y := by
    apply Nat.eq_of_testBit_eq
    intro i
    rw [Nat.testBit_xor, show v.toNat * 256 + y = 2 ^ 8 * v.toNat + y by omega, Nat.testBit_two_pow_mul_add _ hy256, show v.toNat * 256 = 2 ^ 8 * v.toNat + 0 by omega, Nat.testBit_two_pow_mul_add _ (by decide : 0 < 2 ^ 8)]
    by_cases hi : i < 8
    · rw [if_pos hi, if_pos hi]; simp
    · rw [if_neg hi, if_neg hi, Nat.testBit_lt_two_pow (Nat.lt_of_lt_of_le hy256 (Nat.pow_le_pow_right (n := 2) (by decide) (Nat.le_of_not_lt hi) : 2 ^ 8 ≤ 2 ^ i))]; simp
  rw [h2]; omega
theorem tf_par {v : B32} {x : Int} (hv : v.toNat < 2 ^ 24) : par (tf v x) = (par v ^^ par (BitVec.ofInt 32 x)) := by
  unfold tf
  rw [par_xor]
  congr 1
  rw [← par_rounds 8, crounds_up 8 v hv (by omega)]
theorem T4_nat {a b c d : Int} (ha : 0 ≤ a ∧ a < 256) (hb : 0 ≤ b ∧ b < 256) (hc : 0 ≤ c ∧ c < 256) (hd : 0 ≤ d ∧ d < 256) :
    ((T4 [a, b, c, d]).toNat : Int) = ((a * 256 + b) * 256 + c) * 256 + d ∧ par (T4 [a, b, c, d]) = parL [a, b, c, d] := by
  have h1 := tf_nat (v := 0#32) (by decide) ha
  have z : (0#32 : B32).toNat = 0 := rfl
  rw [z] at h1
  have h2 := tf_nat (v := tf 0#32 a) (by omega) hb
  have h3 := tf_nat (v := tf (tf 0#32 a) b) (by omega) hc
  have h4 := tf_nat (v := tf (tf (tf 0#32 a) b) c) (by omega) hd
  refine ⟨?_, ?_⟩
  · show ((tf (tf (tf (tf 0#32 a) b) c) d).toNat : Int) = _
    omega
  · show par (tf (tf (tf (tf 0#32 a) b) c) d) = _
    rw [tf_par (by omega), tf_par (by omega), tf_par (by omega), tf_par (by decide), parL_cons, parL_cons, parL_cons, parL_cons, show par 0#32 = false by decide, show parL [] = false from rfl]
    cases par (BitVec.ofInt 32 a) <;> cases par (BitVec.ofInt 32 b) <;> cases par (BitVec.ofInt 32 c) <;> cases par (BitVec.ofInt 32 d) <;> rfl
theorem tf_diff (v e : B32) (x : Int) : tf (v ^^^ e) x = tf v x ^^^ (e <<< 8) := by
  unfold tf
  rw [BitVec.shiftLeft_xor_distrib]
  ac_rfl
theorem tf_flip (v : B32) {x : Int} {r : Nat} (hx : 0 ≤ x ∧ x < 256) (hr : r < 8) : tf v (bxor x (2 ^ r)) = tf v x ^^^ BitVec.ofInt 32 (2 ^ r) := by
  unfold tf
  rw [bxor_32 x _ hx.1 hx.2 (pow_byte hr).1 (pow_byte hr).2, BitVec.xor_assoc]
theorem T4_flip {l : List Int} {t r : Nat} (hl : l.length = 4) (ht : t < 4) (hr : r < 8) (hb : ∀ x ∈ l, 0 ≤ x ∧ x < 256) : T4 (l.set t (bxor (l[t]'(by omega)) (2 ^ r))) = T4 l ^^^ sg (31 - r - 8 * (3 - t)) := by
  match l, hl with
  | [a, b, c, d], _ =>
    have ha := hb a (by simp)
    have hb' := hb b (by simp)
    have hc := hb c (by simp)
    have hd := hb d (by simp)
    rcases (show t = 0 ∨ t = 1 ∨ t = 2 ∨ t = 3 by omega) with rfl | rfl | rfl | rfl
    · rw [← pow_sg r hr 3 (by omega)]
      show tf (tf (tf (tf 0#32 (bxor a (2 ^ r))) b) c) d = tf (tf (tf (tf 0#32 a) b) c) d ^^^ _
      rw [tf_flip _ ha hr, tf_diff, tf_diff, tf_diff, ← BitVec.shiftLeft_add, ← BitVec.shiftLeft_add]
    · rw [← pow_sg r hr 2 (by omega)]
      show tf (tf (tf (tf 0#32 a) (bxor b (2 ^ r))) c) d = tf (tf (tf (tf 0#32 a) b) c) d ^^^ _
      rw [tf_flip _ hb' hr, tf_diff, tf_diff, ← BitVec.shiftLeft_add]
    · rw [← pow_sg r hr 1 (by omega)]
      show tf (tf (tf (tf 0#32 a) b) (bxor c (2 ^ r))) d = tf (tf (tf (tf 0#32 a) b) c) d ^^^ _
      rw [tf_flip _ hc hr, tf_diff]
    · rw [← pow_sg r hr 0 (by omega)]
      show tf (tf (tf (tf 0#32 a) b) c) (bxor d (2 ^ r)) = tf (tf (tf (tf 0#32 a) b) c) d ^^^ _
      rw [tf_flip _ hd hr, Nat.mul_zero, BitVec.shiftLeft_zero]
/-- One bit of the bytes, or of the sum behind m of them, turned. -/
def posN (m : Nat) (p : Nat × Nat) : Nat := if p.1 < m then 31 - p.2 + 8 * (m - p.1) else 31 - p.2 - 8 * (3 - (p.1 - m))
theorem posN_inj {m : Nat} {p q : Nat × Nat} (hp : p.1 < m + 4 ∧ p.2 < 8) (hq : q.1 < m + 4 ∧ q.2 < 8) (h : posN m p = posN m q) : p = q := by
  unfold posN at h
  obtain ⟨p1, p2⟩ := p
  obtain ⟨q1, q2⟩ := q
  simp only at hp hq h
  split at h <;> split at h
  · have : p1 = q1 := by omega
    have : p2 = q2 := by omega
    simp [*]
  · omega
  · omega
  · have : p1 = q1 := by omega
    have : p2 = q2 := by omega
    simp [*]
def flipL (l : List Int) (p : Nat × Nat) : List Int := l.set p.1 (bxor (l.getD p.1 0) (2 ^ p.2))
/-- What a sum behind m bytes lacks of being right. -/
def lack (m : Nat) (l : List Int) : B32 := csum (l.take m) ^^^ T4 (l.drop m)
theorem flipL_len (l : List Int) (p : Nat × Nat) : (flipL l p).length = l.length := List.length_set ..
theorem flipL_bytes {l : List Int} {p : Nat × Nat} (hb : ∀ x ∈ l, 0 ≤ x ∧ x < 256) : ∀ x ∈ flipL l p, 0 ≤ x ∧ x < 256 := bytes_set hb _ _ _
theorem flipL_par {l : List Int} {p : Nat × Nat} (hp : p.1 < l.length) (hr : p.2 < 8) (hb : ∀ x ∈ l, 0 ≤ x ∧ x < 256) : parL (flipL l p) = !parL l := by
  unfold flipL
  rw [show l.getD p.1 0 = l[p.1] by simp [List.getD, hp]]
  exact parL_turn l p.1 p.2 hp hr hb
theorem flipL_lack {m : Nat} {l : List Int} {p : Nat × Nat} (hl : l.length = m + 4) (hp : p.1 < m + 4) (hr : p.2 < 8) (hb : ∀ x ∈ l, 0 ≤ x ∧ x < 256) : lack m (flipL l p) = lack m l ^^^ sg (posN m p) := by
  obtain ⟨q, r⟩ := p
  simp only at hp hr
  unfold lack flipL posN
  simp only
  by_cases h : q < m
  · rw [if_pos h, List.take_set, List.drop_set_of_lt h]
    have hq : q < (l.take m).length := by rw [List.length_take]; omega
    have hg : l.getD q 0 = (l.take m)[q] := by simp [List.getD, show q < l.length by omega]
    rw [hg, csum_flip hq hr (fun x hx => hb x (List.mem_of_mem_take hx)), List.length_take, Nat.min_eq_left (by omega)]
    ac_rfl
  · rw [if_neg h, List.take_set_of_le (by omega), List.drop_set, if_neg (by omega)]
    have hd : (l.drop m).length = 4 := by rw [List.length_drop]; omega
    have hg : l.getD q 0 = (l.drop m)[q - m]'(by omega) := by
      rw [List.getElem_drop]
      simp only [List.getD, show m + (q - m) = q by omega]
      simp [show q < l.length by omega]
    rw [hg, T4_flip hd (by omega) hr (fun x hx => hb x (List.mem_of_mem_drop hx))]
    ac_rfl
theorem bxor_bxor {x y : Int} (hx : 0 ≤ x ∧ x < 256) : bxor (bxor x y) y = x := by
  unfold bxor
  obtain ⟨n, hn⟩ := Int.eq_ofNat_of_zero_le hx.1
  subst hn
  have h1 : ∀ X : BitVec 8, BitVec.ofInt 8 (X.toNat : Int) = X := fun X => by
    apply BitVec.eq_of_toNat_eq
    have := X.isLt
    simp
  rw [h1, BitVec.xor_assoc, BitVec.xor_self, BitVec.xor_zero]
  simp
  omega
theorem flipL_twice {l : List Int} {p : Nat × Nat} (hp : p.1 < l.length) (hb : ∀ x ∈ l, 0 ≤ x ∧ x < 256) : flipL (flipL l p) p = l := by
  have hg : l.getD p.1 0 = l[p.1] := by simp [List.getD, hp]
  have hg2 : (flipL l p).getD p.1 0 = bxor l[p.1] (2 ^ p.2) := by
    unfold flipL
    rw [hg]
    simp [List.getD, hp]
  have e : flipL (flipL l p) p = (flipL l p).set p.1 (bxor ((flipL l p).getD p.1 0) (2 ^ p.2)) := rfl
  rw [e, hg2, bxor_bxor (hb _ (List.getElem_mem hp))]
  unfold flipL
  rw [List.set_set]
  simp
theorem parL_append (a b : List Int) : parL (a ++ b) = (parL a ^^ parL b) := by
  show List.foldl _ _ _ = _
  rw [List.foldl_append, parL_from]; rfl
theorem lack_zero {m : Nat} {l : List Int} (hl : l.length = m + 4) (hb : ∀ x ∈ l, 0 ≤ x ∧ x < 256) (h : ((l.drop m).foldl (fun n b => n * 256 + b) (0 : Int)) = ((csum (l.take m)).toNat : Int)) : lack m l = 0#32 ∧ parL l = false := by
  have hd : (l.drop m).length = 4 := by rw [List.length_drop]; omega
  have hbd : ∀ x ∈ l.drop m, 0 ≤ x ∧ x < 256 := fun x hx => hb x (List.mem_of_mem_drop hx)
  have e : parL l = (parL (l.take m) ^^ parL (l.drop m)) := by rw [← parL_append, List.take_append_drop]
  rw [e, ← par_sum (l.take m)]
  unfold lack
  revert h hbd
  match l.drop m, hd with
  | [a, b, c, d], _ =>
    intro h hbd
    obtain ⟨t1, t2⟩ := T4_nat (hbd a (by simp)) (hbd b (by simp)) (hbd c (by simp)) (hbd d (by simp))
    have h' : (((0 * 256 + a) * 256 + b) * 256 + c) * 256 + d = ((csum (l.take m)).toNat : Int) := h
    have hT : T4 [a, b, c, d] = csum (l.take m) := BitVec.eq_of_toNat_eq (by omega)
    rw [← t2, hT, BitVec.xor_self]
    exact ⟨rfl, by cases par (csum (l.take m)) <;> rfl⟩
/-- One to three bits turned are seen, or none was turned in the end. -/
theorem flips_seen {m : Nat} {l : List Int} (hm : m ≤ 410) (hl : l.length = m + 4) (hb : ∀ x ∈ l, 0 ≤ x ∧ x < 256) (h0 : lack m l = 0#32) (p0 : parL l = false) (ps : List (Nat × Nat)) (hps : ps.length ≤ 3) (hok : ∀ p ∈ ps, p.1 < m + 4 ∧ p.2 < 8) (h1 : lack m (ps.foldl flipL l) = 0#32) (p1 : parL (ps.foldl flipL l) = false) : ps.foldl flipL l = l := by
  match ps, hps with
  | [], _ => rfl
  | [p], _ =>
    have hp := hok p (by simp)
    have h2 := flipL_par (p := p) (by omega) hp.2 hb
    have p1 : parL (flipL l p) = false := p1
    rw [h2, p0] at p1; cases p1
  | [p, q], _ =>
    have hp := hok p (by simp)
    have hq := hok q (by simp)
    have h1 : lack m (flipL (flipL l p) q) = 0#32 := h1
    rw [flipL_lack (by rw [flipL_len]; exact hl) hq.1 hq.2 (flipL_bytes hb), flipL_lack hl hp.1 hp.2 hb, h0, BitVec.zero_xor] at h1
    have hN := sg_inj (xor_eq_zero h1) (by unfold posN; split <;> omega) (by unfold posN; split <;> omega)
    have e := posN_inj hp hq hN
    subst e
    exact flipL_twice (by omega) hb
  | [p, q, r], _ =>
    have hp := hok p (by simp)
    have hq := hok q (by simp)
    have hr := hok r (by simp)
    have h2 := flipL_par (p := p) (by omega) hp.2 hb
    have h3 := flipL_par (p := q) (l := flipL l p) (by rw [flipL_len]; omega) hq.2 (flipL_bytes hb)
    have h4 := flipL_par (p := r) (l := flipL (flipL l p) q) (by rw [flipL_len, flipL_len]; omega) hr.2 (flipL_bytes (flipL_bytes hb))
    have p1 : parL (flipL (flipL (flipL l p) q) r) = false := p1
    rw [h4, h3, h2, p0] at p1; cases p1
end Mile
