/- What a graph's bytes are no more: cut short, longer, or with bits turned. -/
import Derived.Test.YtdccpikddhpleaaFileP
import Derived.Test.YtdccpikddhpleaaTwo
namespace Mile
/-- chkN, and where it ends. -/
def chk2 : Nat → Nat → Nat → Bool
  | 0, c, t => c == t
  | k + 1, c, t => (stp c != 2147483648) && chk2 k (stp c) t
theorem chk2_spec : ∀ (k c t : Nat), chk2 k c t = true → chkN k c = true ∧ itN k c = t
  | 0, c, t, h => ⟨rfl, by simpa [chk2, itN] using h⟩
  | k + 1, c, t, h => by
    rw [chk2, Bool.and_eq_true] at h
    have h2 := chk2_spec k (stp c) t h.2
    exact ⟨by rw [chkN, Bool.and_eq_true]; exact ⟨h.1, h2.1⟩, h2.2⟩
theorem chkN_add : ∀ (a b c : Nat), chkN a c = true → chkN b (itN a c) = true → chkN (a + b) c = true
  | 0, b, c, _, h => by rw [Nat.zero_add]; exact h
  | a + 1, b, c, h1, h2 => by
    rw [chkN, Bool.and_eq_true] at h1
    rw [show a + 1 + b = (a + b) + 1 by omega, chkN, Bool.and_eq_true]
    exact ⟨h1.1, chkN_add a b _ h1.2 h2⟩
theorem piece6_0 : chk2 3200 2147483648 441437767 = true := by decide +kernel
theorem piece6_1 : chk2 3200 441437767 3336429751 = true := by decide +kernel
theorem piece6_2 : chk2 3200 3336429751 1231389534 = true := by decide +kernel
theorem piece6_3 : chk2 3200 1231389534 3936682156 = true := by decide +kernel
theorem piece6_4 : chk2 3200 3936682156 3886326581 = true := by decide +kernel
theorem piece6_5 : chk2 3200 3886326581 3318740807 = true := by decide +kernel
theorem chk_all6 : chkN 19200 2147483648 = true := by
  obtain ⟨h0, e0⟩ := chk2_spec _ _ _ piece6_0
  obtain ⟨h1, e1⟩ := chk2_spec _ _ _ piece6_1
  obtain ⟨h2, e2⟩ := chk2_spec _ _ _ piece6_2
  obtain ⟨h3, e3⟩ := chk2_spec _ _ _ piece6_3
  obtain ⟨h4, e4⟩ := chk2_spec _ _ _ piece6_4
  obtain ⟨h5, e5⟩ := chk2_spec _ _ _ piece6_5
  have k5 := h5
  have k4 := chkN_add _ _ _ h4 (by rw [e4]; exact k5)
  have k3 := chkN_add _ _ _ h3 (by rw [e3]; exact k4)
  have k2 := chkN_add _ _ _ h2 (by rw [e2]; exact k3)
  have k1 := chkN_add _ _ _ h1 (by rw [e1]; exact k2)
  have k0 := chkN_add _ _ _ h0 (by rw [e0]; exact k1)
  exact k0
theorem sg_ne6 {d : Nat} (h : d + 1 ≤ 19200) : sg (d + 1) ≠ 2147483648#32 := fun e => by
  have := chk_spec 19200 2147483648 d chk_all6 h
  apply this
  have h2 := crounds_nat (d + 1) 2147483648#32
  unfold sg at e
  rw [e] at h2
  exact h2.symm
theorem sg_inj6 {N M : Nat} (h : sg N = sg M) (hN : N ≤ 19200) (hM : M ≤ 19200) : N = M := by
  have key : ∀ a b : Nat, a ≤ b → b ≤ 19200 → sg a = sg b → a = b := fun a b hab hb e => by
    rcases Nat.lt_or_ge a b with g | g
    · obtain ⟨d, hd⟩ : ∃ d, b = (d + 1) + a := ⟨b - a - 1, by omega⟩
      have h3 : sg b = crounds a (sg (d + 1)) := by rw [sg_add, hd]
      rw [h3] at e
      have h4 : sg a = crounds a 2147483648#32 := rfl
      rw [h4] at e
      exact absurd (crounds_inj e).symm (sg_ne6 (by omega))
    · omega
  rcases Nat.le_total N M with g | g
  · exact key N M g hM h
  · exact (key M N g hN h.symm).symm
theorem flips_seen6 {m : Nat} {l : List Int} (hm : m ≤ 2352) (hl : l.length = m + 4) (hb : ∀ x ∈ l, 0 ≤ x ∧ x < 256) (h0 : lack m l = 0#32) (p0 : parL l = false) (ps : List (Nat × Nat)) (hps : ps.length ≤ 3) (hok : ∀ p ∈ ps, p.1 < m + 4 ∧ p.2 < 8) (h1 : lack m (ps.foldl flipL l) = 0#32) (p1 : parL (ps.foldl flipL l) = false) : ps.foldl flipL l = l := by
  match ps, hps with
  | [], _ => rfl
  | [p], _ =>
    have hp := hok p (by simp)
    have h2 := flipL_par (p := p) (by omega) hp.2 hb
    have p1 : parL (flipL l p) = false := p1
    rw [h2, p0] at p1; cases p1
  | [p, q], _ =>
    have hp := hok p (by simp)
    have hq := hok q (by simp)
    have h1 : lack m (flipL (flipL l p) q) = 0#32 := h1
    rw [flipL_lack (by rw [flipL_len]; exact hl) hq.1 hq.2 (flipL_bytes hb), flipL_lack hl hp.1 hp.2 hb, h0, BitVec.zero_xor] at h1
    have hN := sg_inj6 (xor_eq_zero h1) (by unfold posN; split <;> omega) (by unfold posN; split <;> omega)
    have e := posN_inj hp hq hN
    subst e
    exact flipL_twice (by omega) hb
  | [p, q, r], _ =>
    have hp := hok p (by simp)
    have hq := hok q (by simp)
    have hr := hok r (by simp)
    have h2 := flipL_par (p := p) (by omega) hp.2 hb
    have h3 := flipL_par (p := q) (l := flipL l p) (by rw [flipL_len]; omega) hq.2 (flipL_bytes hb)
    have h4 := flipL_par (p := r) (l := flipL (flipL l p) q) (by rw [flipL_len, flipL_len]; omega) hr.2 (flipL_bytes (flipL_bytes hb))
    have p1 : parL (flipL (flipL (flipL l p) q) r) = false := p1
    rw [h4, h3, h2, p0] at p1; cases p1
theorem foldl_flip_len6 : ∀ (ps : List (Nat × Nat)) (l : List Int), (ps.foldl flipL l).length = l.length
  | [], _ => rfl
  | p :: ps, l => by rw [List.foldl_cons, foldl_flip_len6 ps, flipL_len]
theorem foldl_flip_bytes6 : ∀ (ps : List (Nat × Nat)) (l : List Int), (∀ x ∈ l, 0 ≤ x ∧ x < 256) → ∀ x ∈ ps.foldl flipL l, 0 ≤ x ∧ x < 256
  | [], _, h => h
  | p :: ps, l, h => foldl_flip_bytes6 ps _ (flipL_bytes h)
theorem file_head (G : GD) : (fileG G).take 10 = hdG G := by
  unfold fileG ahG
  rw [List.append_assoc, List.append_assoc, List.append_assoc]
  exact List.take_left' (hdG_len G)
theorem digs2_inj {x y : Int} (hx : 0 ≤ x ∧ x < 65536) (hy : 0 ≤ y ∧ y < 65536) (h : digs x 2 = digs y 2) : x = y := by
  rw [← undigs_digs_fit x 2 (by unfold fits; simp; omega), ← undigs_digs_fit y 2 (by unfold fits; simp; omega), h]
theorem head_len {G H : GD} (hg : May G) (hh : May H) (e : (fileG G).take 10 = (fileG H).take 10) : (fileG G).length = (fileG H).length := by
  rw [file_head, file_head] at e
  unfold hdG nb2 at e
  simp only [List.flatMap_cons, List.flatMap_nil, List.append_nil] at e
  have e := List.append_cancel_left e
  have e1 := List.append_inj e (by rw [digs_length, digs_length])
  have e2 := List.append_inj e1.2 (by rw [digs_length, digs_length])
  have b1 := hg.1.1.2; have b2 := hg.1.2.1; have b3 := hg.1.2.2
  have d1 := hh.1.1.2; have d2 := hh.1.2.1; have d3 := hh.1.2.2
  have f1 := digs2_inj (by omega) (by omega) e1.1
  have f2 := digs2_inj (by omega) (by omega) e2.1
  have f3 := digs2_inj (by omega) (by omega) e2.2
  rw [fileG_len, fileG_len]
  omega
theorem file_cut {G H : GD} (hg : May G) (hh : May H) {k : Nat} (hk : k < (fileG G).length) : ¬ fileG H = (fileG G).take k := fun e => by
  have hl : (fileG H).length = k := by rw [e, List.length_take]; omega
  have h14 := fileG_len H
  have h10 : (fileG H).take 10 = (fileG G).take 10 := by rw [e, List.take_take, Nat.min_eq_left (by omega)]
  have := head_len hh hg h10
  omega
theorem file_more {G H : GD} (hg : May G) (hh : May H) (x : Int) : ¬ fileG H = fileG G ++ [x] := fun e => by
  have hl : (fileG H).length = (fileG G).length + 1 := by rw [e]; simp
  have h14 := fileG_len G
  have h10 : (fileG H).take 10 = (fileG G).take 10 := by rw [e, List.take_append_of_le_length (by omega)]
  have := head_len hh hg h10
  omega
theorem file_sum (G : GD) : (((fileG G).drop (ahG G).length).foldl (fun n b => n * 256 + b) (0 : Int)) = ((csum ((fileG G).take (ahG G).length)).toNat : Int) := by
  unfold fileG
  rw [List.drop_left' rfl, List.take_left' rfl]
  have := (csum (ahG G)).isLt
  exact undigs_digs_fit _ 4 (by unfold fits; simp; omega)
theorem file_turned {G H : GD} (hm : (fileG G).length ≤ 2356) (ps : List (Nat × Nat)) (hps : ps.length ≤ 3) (hok : ∀ p ∈ ps, p.1 < (fileG G).length ∧ p.2 < 8) (e : fileG H = ps.foldl flipL (fileG G)) : ps.foldl flipL (fileG G) = fileG G := by
  have l1 := fileG_len G
  have l2 := ahG_len G
  have l3 := fileG_len H
  have l4 := ahG_len H
  have l5 : (fileG H).length = (fileG G).length := by rw [e, foldl_flip_len6]
  have hm2 : (ahG H).length = (ahG G).length := by omega
  obtain ⟨a1, a2⟩ := lack_zero (m := (ahG G).length) (by omega) (fileG_range G) (file_sum G)
  have s2 := file_sum H
  rw [hm2] at s2
  obtain ⟨c1, c2⟩ := lack_zero (m := (ahG G).length) (by omega) (fileG_range H) s2
  rw [e] at c1 c2
  exact flips_seen6 (by omega) (by omega) (fileG_range G) a1 a2 ps hps (fun p hp => ⟨by have := (hok p hp).1; omega, (hok p hp).2⟩) c1 c2
end Mile
