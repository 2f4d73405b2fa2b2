/- What a message that was written is read as: plain. -/
import Derived.Test.YtabfmnlpipbegaaMsg4
import Derived.Test.YtabfmnlpipbegaaGramN
namespace Go.Proofs.Ytabfmnlpipbegaa
open Go.RowKit Mile
set_option maxRecDepth 100000
/-- A message, as far as its kind says. -/
def normM (m : MsD) : MsD :=
  if m.kind = 1 then ⟨1, m.pos, m.dest, [], 0, 0, 0, 0, 0⟩
  else if m.kind = 2 ∨ m.kind = 9 then ⟨m.kind, m.pos, 0, [], 0, 0, 0, 0, 0⟩
  else if m.kind = 5 then ⟨5, 0, 0, m.edges, m.weight, 0, 0, 0, 0⟩
  else if m.kind = 7 then ⟨7, 0, 0, [], 0, m.hc, m.he, m.hf, m.hl⟩
  else ⟨m.kind, 0, 0, [], 0, 0, 0, 0, 0⟩
theorem normM_kind (m : MsD) : (normM m).kind = m.kind := by
  unfold normM
  split
  · rename_i h; exact h.symm
  · split
    · rfl
    · split
      · rename_i h; exact h.symm
      · split
        · rename_i h; exact h.symm
        · rfl
theorem mBytes_norm (m : MsD) : mBytes (normM m) = mBytes m := by
  obtain ⟨kind, pos, dest, edges, weight, hc, he, hf, hl⟩ := m
  by_cases h1 : kind = 1
  · subst h1; simp [normM, mBytes]
  · by_cases h2 : kind = 2 ∨ kind = 9
    · unfold normM mBytes; simp only [if_neg h1, if_pos h2]
    · by_cases h3 : kind = 5
      · subst h3; simp [normM, mBytes]
      · by_cases h4 : kind = 7
        · subst h4; simp [normM, mBytes]
        · unfold normM mBytes; simp only [if_neg h1, if_neg h2, if_neg h3, if_neg h4]
/-- What is left behind what is read. -/
def rdKS (k : Int) (S : RS2) : RS2 :=
  if k = 1 then (numR 2 (numR 2 S).2).2
  else if k = 2 ∨ k = 9 then (numR 2 S).2
  else if k = 5 then (rdEs (numR 5 S).2).2
  else if k = 7 then (numR 5 (numR 5 (numR 2 (numR 1 S).2).2).2).2
  else S
def rdMS (b : List Int) : RS2 := rdKS (numR 1 (some b)).1 (numR 1 (some b)).2
def digsL (s : Nat) : List Int → List Int
  | [] => []
  | x :: r => digs x s ++ digsL s r
theorem ok2 : sizeOk ((2 : Nat) : Int) = true := by decide
theorem ok5 : sizeOk ((5 : Nat) : Int) = true := by decide
theorem nums_inL {s : Nat} (h1 : sizeOk (s : Int) = true) : ∀ (l bs cs : List Int), numsS (s : Int) l (some bs) = some cs → cs = bs ++ digsL s l ∧ ∀ x ∈ l, fits s x = true := by
  intro l
  induction l with
  | nil => intro bs cs h; rw [nums_nil2 s bs h1] at h; exact ⟨by rw [← Option.some.inj h]; exact (List.append_nil _).symm, fun x hx => by cases hx⟩
  | cons x r ih =>
    intro bs cs h
    by_cases hf : fits s x = true
    · rw [nums_app s x r bs h1 hf] at h
      obtain ⟨e1, e2⟩ := ih _ _ h
      exact ⟨by rw [e1, List.append_assoc]; rfl, fun y hy => by rcases List.mem_cons.1 hy with rfl | hy; exact hf; exact e2 y hy⟩
    · exfalso
      replace h : (if sizeOk (s : Int) then numsL (s : Int).toNat bs (x :: r) else none) = some cs := h
      rw [if_pos h1, Int.toNat_natCast] at h
      replace h : (if fits s x then numsL s (bs ++ digs x s) r else none) = some cs := h
      rw [if_neg hf] at h
      cases h
theorem digsL_len (s : Nat) : ∀ l, (digsL s l).length = s * l.length := by
  intro l
  induction l with
  | nil => rfl
  | cons x r ih => show (digs x s ++ digsL s r).length = _; rw [List.length_append, digs_length, ih, List.length_cons, Nat.mul_succ]; omega
theorem rdE_digs (n : Int) (t : List Int) : ∀ (l acc : List Int) (f : Nat), (∀ x ∈ l, fits 2 x = true) → ((acc.length + l.length : Nat) : Int) = n → (digsL 2 l ++ t).length ≤ f → rdE f n (some (digsL 2 l ++ t)) acc = (acc ++ l, some t) := by
  intro l
  induction l with
  | nil =>
    intro acc f _ hn _
    rw [rdE_stop (by simp only [List.length_nil] at hn; omega), List.append_nil]
    rfl
  | cons x r ih =>
    intro acc f hf hn hl
    have e : digsL 2 (x :: r) ++ t = digs x 2 ++ (digsL 2 r ++ t) := by show (digs x 2 ++ digsL 2 r) ++ t = _; rw [List.append_assoc]
    rw [e] at hl ⊢
    have hl2 : (digs x 2 ++ (digsL 2 r ++ t)).length = 2 + (digsL 2 r ++ t).length := by rw [List.length_append, digs_length]
    obtain ⟨g, rfl⟩ : ∃ g, f = g + 1 := ⟨f - 1, by omega⟩
    show (if _ then _ else _) = _
    rw [if_pos ⟨by simp only [List.length_cons] at hn; omega, by show 0 < (digs x 2 ++ (digsL 2 r ++ t)).length; omega⟩, show numR 2 (some (digs x 2 ++ (digsL 2 r ++ t))) = (x, some (digsL 2 r ++ t)) from numR_dig 2 ok2 x (hf x (by simp)) _]
    rw [ih (acc ++ [x]) g (fun y hy => hf y (by simp [hy])) (by rw [← hn]; simp; omega) (by omega), List.append_assoc]
    rfl
theorem rdEs_digs {l : List Int} (t : List Int) (hf : ∀ x ∈ l, fits 2 x = true) (hn : fits 2 (l.length : Int) = true) : rdEs (some (digs (l.length : Int) 2 ++ (digsL 2 l ++ t))) = (l, some t) := by
  have h1 : numR 2 (some (digs (l.length : Int) 2 ++ (digsL 2 l ++ t))) = ((l.length : Int), some (digsL 2 l ++ t)) := numR_dig 2 ok2 _ hn _
  unfold rdEs
  rw [h1]
  have h2 := rdE_digs (l.length : Int) t l [] ((some (digsL 2 l ++ t)).getD []).length hf (by simp) (Nat.le_refl _)
  rw [List.nil_append] at h2
  exact h2
theorem digs1_app {s : Nat} {x : Int} : digsL s [x] = digs x s := by show digs x s ++ [] = _; rw [List.append_nil]
theorem digs2_app {s : Nat} {x y : Int} : digsL s [x, y] = digs x s ++ digs y s := by show digs x s ++ (digs y s ++ []) = _; rw [List.append_nil]
theorem numsS_some {size : Int} {l : List Int} {s : Option (List Int)} {cs : List Int} (h : numsS size l s = some cs) : ∃ bs, s = some bs := by
  cases s with
  | none => cases h
  | some bs => exact ⟨bs, rfl⟩
theorem edge1_fits {x : Int} (h : fits 2 (edge1 x) = true) : edge1 x - 1 = x := by
  unfold edge1 at h ⊢
  split
  · rename_i hx; rw [if_pos hx] at h; exact absurd h (by decide)
  · omega
/-- What was written is read, whatever stands behind it. -/
theorem rd_bytes {m : MsD} {bs : List Int} (h : mBytes m = some bs) (t : List Int) : rdM (bs ++ t) = normM m ∧ rdMS (bs ++ t) = some t := by
  have key : ∀ (rest : List Int), fits 1 m.kind = true → bs = digs m.kind 1 ++ rest → rdK m.kind (some (rest ++ t)) = normM m ∧ rdKS m.kind (some (rest ++ t)) = some t → rdM (bs ++ t) = normM m ∧ rdMS (bs ++ t) = some t := by
    intro rest hf e hh
    have h1 : numR 1 (some (bs ++ t)) = (m.kind, some (rest ++ t)) := by rw [e, List.append_assoc]; exact numR_dig 1 ok1 _ hf _
    unfold rdM rdMS
    rw [h1]
    exact hh
  obtain ⟨kind, pos, dest, edges, weight, hc, he, hf, hl⟩ := m
  have k1 : ∀ {b1 : List Int}, numsS 1 [kind] (some []) = some b1 → b1 = digs kind 1 ∧ fits 1 kind = true := fun hh => by
    have := nums_in1 (s := 1) ok1 hh; exact ⟨by rw [this.1]; rfl, this.2⟩
  unfold mBytes at h
  simp only at h key
  split at h
  · rename_i hk
    obtain ⟨b1, e1⟩ := numsS_some h
    obtain ⟨rfl, f1⟩ := k1 e1
    rw [e1] at h
    obtain ⟨rfl, f2, f3⟩ := nums_in2 (s := 2) ok2 h
    refine key (digs pos 2 ++ digs dest 2) f1 (by rw [List.append_assoc]) ?_
    have a1 : numR 2 (some (digs pos 2 ++ digs dest 2 ++ t)) = (pos, some (digs dest 2 ++ t)) := by rw [List.append_assoc]; exact numR_dig 2 ok2 pos f2 _
    have a2 : numR 2 (some (digs dest 2 ++ t)) = (dest, some t) := numR_dig 2 ok2 dest f3 _
    unfold rdK rdKS normM
    simp only [if_pos hk, a1, a2]
    exact ⟨by rw [hk], trivial⟩
  · rename_i hk1
    split at h
    · rename_i hk
      obtain ⟨b1, e1⟩ := numsS_some h
      obtain ⟨rfl, f1⟩ := k1 e1
      rw [e1] at h
      obtain ⟨rfl, f2⟩ := nums_in1 (s := 2) ok2 h
      refine key (digs pos 2) f1 rfl ?_
      have a1 : numR 2 (some (digs pos 2 ++ t)) = (pos, some t) := numR_dig 2 ok2 pos f2 _
      unfold rdK rdKS normM
      simp only [if_neg hk1, if_pos hk, a1]
      exact ⟨trivial, trivial⟩
    · rename_i hk2
      split at h
      · rename_i hk
        split at h
        · cases h
        · obtain ⟨b4, e4⟩ := numsS_some h
          rw [e4] at h
          obtain ⟨b3, e3⟩ := numsS_some e4
          rw [e3] at e4
          obtain ⟨b1, e1⟩ := numsS_some e3
          obtain ⟨rfl, f1⟩ := k1 e1
          rw [e1] at e3
          obtain ⟨rfl, f3⟩ := nums_in1 (s := 5) ok5 e3
          obtain ⟨rfl, f4⟩ := nums_in1 (s := 2) ok2 e4
          obtain ⟨rfl, f5⟩ := nums_inL (s := 2) ok2 edges _ _ h
          refine key (digs weight 5 ++ (digs (edges.length : Int) 2 ++ digsL 2 edges)) f1 (by simp only [List.append_assoc]) ?_
          have a1 : numR 5 (some (digs weight 5 ++ (digs (edges.length : Int) 2 ++ digsL 2 edges) ++ t)) = (weight, some (digs (edges.length : Int) 2 ++ (digsL 2 edges ++ t))) := by rw [List.append_assoc, List.append_assoc]; exact numR_dig 5 ok5 weight f3 _
          have a2 := rdEs_digs t f5 f4
          unfold rdK rdKS normM
          simp only [if_neg hk1, if_neg hk2, if_pos hk, a1, a2]
          exact ⟨by rw [hk], trivial⟩
      · rename_i hk3
        split at h
        · rename_i hk
          obtain ⟨b4, e4⟩ := numsS_some h
          rw [e4] at h
          obtain ⟨b3, e3⟩ := numsS_some e4
          rw [e3] at e4
          obtain ⟨b1, e1⟩ := numsS_some e3
          obtain ⟨rfl, f1⟩ := k1 e1
          rw [e1] at e3
          obtain ⟨rfl, f3⟩ := nums_in1 (s := 1) ok1 e3
          obtain ⟨rfl, f4⟩ := nums_in1 (s := 2) ok2 e4
          obtain ⟨rfl, f5, f6⟩ := nums_in2 (s := 5) ok5 h
          refine key (digs hc 1 ++ (digs (edge1 he) 2 ++ (digs hf 5 ++ digs hl 5))) f1 (by simp only [List.append_assoc]) ?_
          have a1 : numR 1 (some (digs hc 1 ++ (digs (edge1 he) 2 ++ (digs hf 5 ++ digs hl 5)) ++ t)) = (hc, some (digs (edge1 he) 2 ++ (digs hf 5 ++ (digs hl 5 ++ t)))) := by simp only [List.append_assoc]; exact numR_dig 1 ok1 hc f3 _
          have a2 : numR 2 (some (digs (edge1 he) 2 ++ (digs hf 5 ++ (digs hl 5 ++ t)))) = (edge1 he, some (digs hf 5 ++ (digs hl 5 ++ t))) := numR_dig 2 ok2 _ f4 _
          have a3 : numR 5 (some (digs hf 5 ++ (digs hl 5 ++ t))) = (hf, some (digs hl 5 ++ t)) := numR_dig 5 ok5 _ f5 _
          have a4 : numR 5 (some (digs hl 5 ++ t)) = (hl, some t) := numR_dig 5 ok5 _ f6 _
          unfold rdK rdKS normM
          simp only [if_neg hk1, if_neg hk2, if_neg hk3, if_pos hk, a1, a2, a3, a4, edge1_fits f4]
          exact ⟨by rw [hk], trivial⟩
        · rename_i hk4
          split at h
          · obtain ⟨rfl, f1⟩ := k1 h
            refine key [] f1 (List.append_nil _).symm ?_
            unfold rdK rdKS normM
            simp only [if_neg hk1, if_neg hk2, if_neg hk3, if_neg hk4, List.nil_append]
            exact ⟨trivial, trivial⟩
          · cases h
theorem dec_encM {m : MsD} {bs : List Int} (h : mBytes m = some bs) : decM bs = (normM m, 0) := by
  have h1 := (rd_bytes h []).1
  rw [List.append_nil] at h1
  unfold decM
  rw [h1, mBytes_norm, if_pos h]
theorem no_prefix {m m2 : MsD} {bs t : List Int} (h : mBytes m = some bs) (h2 : mBytes m2 = some (bs ++ t)) : t = [] := by
  have h3 := (rd_bytes h t).2
  have h4 := (rd_bytes h2 []).2
  rw [List.append_nil, h3] at h4
  exact Option.some.inj h4
theorem dec_less {m : MsD} {bs : List Int} (h : mBytes m = some bs) {k : Nat} (hk : k < bs.length) : decM (bs.take k) = (zM, 2) := by
  unfold decM
  rw [if_neg]
  intro h2
  have h3 : mBytes m = some (bs.take k ++ bs.drop k) := by rw [List.take_append_drop]; exact h
  have := no_prefix h2 h3
  have hl := congrArg List.length this
  rw [List.length_drop, List.length_nil] at hl
  omega
theorem dec_more {m : MsD} {bs : List Int} (h : mBytes m = some bs) (x : Int) : decM (bs ++ [x]) = (zM, 2) := by
  unfold decM
  rw [if_neg]
  intro h2
  have := no_prefix h h2
  cases this
theorem mBytes_pos {m : MsD} {bs : List Int} (h : mBytes m = some bs) : 0 < bs.length := by
  have h1 := (rd_bytes h [])
  rcases Nat.eq_zero_or_pos bs.length with h0 | h0
  · exfalso
    have hb := List.eq_nil_of_length_eq_zero h0
    subst hb
    have hd : mBytes (rdM []) = some [] := by
      have := h1.1
      rw [List.append_nil] at this
      rw [this, mBytes_norm]; exact h
    exact absurd hd (by decide)
  · exact h0
end Go.Proofs.Ytabfmnlpipbegaa
