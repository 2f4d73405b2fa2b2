/- What a datagram that was written is read as: plain. -/
import Derived.Test.YtabfmnlpipbegaaGram3
namespace Go.Proofs.Ytabfmnlpipbegaa
open Go.RowKit Mile
set_option maxRecDepth 100000
/-- A datagram, as far as its kind says. -/
def normG (g : GrD) : GrD := if g.kind = 1 then ⟨g.conn, 1, g.seq, g.ack, 0, g.body⟩ else if g.kind = 2 then ⟨g.conn, 2, 0, g.ack, 0, []⟩ else ⟨g.conn, 3, 0, 0, g.code, []⟩
theorem nums_in1 {s : Nat} {x : Int} {bs cs : List Int} (h1 : sizeOk (s : Int) = true) (h : numsS (s : Int) [x] (some bs) = some cs) : cs = bs ++ digs x s ∧ fits s x = true := by
  replace h : (if sizeOk (s : Int) then numsL (s : Int).toNat bs [x] else none) = some cs := h
  rw [if_pos h1, Int.toNat_natCast] at h
  replace h : (if fits s x then some (bs ++ digs x s) else none) = some cs := h
  split at h
  · rename_i hf; exact ⟨(Option.some.inj h).symm, hf⟩
  · cases h
theorem nums_in2 {s : Nat} {x y : Int} {bs cs : List Int} (h1 : sizeOk (s : Int) = true) (h : numsS (s : Int) [x, y] (some bs) = some cs) : cs = bs ++ digs x s ++ digs y s ∧ fits s x = true ∧ fits s y = true := by
  replace h : (if sizeOk (s : Int) then numsL (s : Int).toNat bs [x, y] else none) = some cs := h
  rw [if_pos h1, Int.toNat_natCast] at h
  replace h : (if fits s x then (if fits s y then some (bs ++ digs x s ++ digs y s) else none) else none) = some cs := h
  split at h
  · rename_i hf
    split at h
    · rename_i hf2; exact ⟨(Option.some.inj h).symm, hf, hf2⟩
    · cases h
  · cases h
theorem numR_dig (s : Nat) (h1 : sizeOk (s : Int) = true) (x : Int) (hx : fits s x = true) (m : List Int) : numR (s : Int) (some (digs x s ++ m)) = (x, some m) := by
  rw [numR_ok s h1 _ _ (digs_length x s), undigs_digs_fit _ _ hx]
theorem body_norm {g : GrD} {y : List Int} (h : gBody g = some y) : pG2 g.kind y = normG g ∧ doneG g.kind y ∧ (y.length : Int) = (if g.kind = 1 then 12 + (g.body.length : Int) else if g.kind = 2 then 8 else 5) := by
  refine ⟨?_, gBody_len h, ?_⟩
  all_goals
    unfold gBody at h
    obtain ⟨conn, kind, seq, ack, code, body⟩ := g
    simp only at h ⊢
    cases h0 : numsS 4 [conn] (some []) with
    | none =>
      rw [h0] at h
      exfalso
      split at h
      · cases h
      · split at h
        · cases h
        · split at h
          · cases h
          · cases h
    | some z =>
      obtain ⟨rfl, f0⟩ := nums_in1 (s := 4) ok4 h0
      rw [h0] at h
      split at h
      · rename_i hk
        subst hk
        cases h2 : numsS 4 [seq, ack] (some ([] ++ digs conn 4)) with
        | none => rw [h2] at h; cases h
        | some z2 =>
          obtain ⟨rfl, f1, f2⟩ := nums_in2 (s := 4) ok4 h2
          rw [h2] at h
          have e := Option.some.inj h
          subst e
          first
          | (rw [if_pos rfl]; simp [digs_length]; omega)
          | (have a1 : numR 4 (some ([] ++ digs conn 4 ++ digs seq 4 ++ digs ack 4 ++ body)) = (conn, some (digs seq 4 ++ (digs ack 4 ++ body))) := by
               simp only [List.nil_append, List.append_assoc]; exact numR_dig 4 ok4 conn f0 _
             have a2 : numR 4 (some (digs seq 4 ++ (digs ack 4 ++ body))) = (seq, some (digs ack 4 ++ body)) := numR_dig 4 ok4 seq f1 _
             have a3 : numR 4 (some (digs ack 4 ++ body)) = (ack, some body) := numR_dig 4 ok4 ack f2 _
             show pG2 1 ([] ++ digs conn 4 ++ digs seq 4 ++ digs ack 4 ++ body) = normG ⟨conn, 1, seq, ack, code, body⟩
             unfold pG2 rS3 rS2 rS1 normG
             rw [if_pos rfl, if_pos rfl, a1]
             simp only []
             rw [a2]
             simp only []
             rw [a3]
             simp [takeS])
      · split at h
        · rename_i hk
          subst hk
          obtain ⟨rfl, f1⟩ := nums_in1 (s := 4) ok4 h
          first
          | (rw [if_neg (by decide), if_pos rfl]; simp [digs_length]; done)
          | (have a1 : numR 4 (some ([] ++ digs conn 4 ++ digs ack 4)) = (conn, some (digs ack 4)) := by
               simp only [List.nil_append]; exact numR_dig 4 ok4 conn f0 _
             have a2 : numR 4 (some (digs ack 4)) = (ack, some []) := by have h := numR_dig 4 ok4 ack f1 []; rw [List.append_nil] at h; exact h
             show pG2 2 ([] ++ digs conn 4 ++ digs ack 4) = normG ⟨conn, 2, seq, ack, code, body⟩
             unfold pG2 rS1 normG
             rw [if_neg (by decide), if_pos rfl, a1]
             simp only []
             rw [a2]
             rfl)
        · split at h
          · rename_i hk
            subst hk
            obtain ⟨rfl, f1⟩ := nums_in1 (s := 1) ok1 h
            first
            | (rw [if_neg (by decide), if_neg (by decide)]; simp [digs_length]; done)
            | (have a1 : numR 4 (some ([] ++ digs conn 4 ++ digs code 1)) = (conn, some (digs code 1)) := by
                 simp only [List.nil_append]; exact numR_dig 4 ok4 conn f0 _
               have a2 : numR 1 (some (digs code 1)) = (code, some []) := by have h := numR_dig 1 ok1 code f1 []; rw [List.append_nil] at h; exact h
               show pG2 3 ([] ++ digs conn 4 ++ digs code 1) = normG ⟨conn, 3, seq, ack, code, body⟩
               unfold pG2 rS1 normG
               rw [if_neg (by decide), if_neg (by decide), if_pos rfl, a1]
               simp only []
               rw [a2]
               rfl)
          · cases h
/-- A datagram that was written is read as it was, as far as its kind says. -/
theorem dec_enc {g : GrD} {bs : List Int} (h : encG g = some bs) : decG bs = (normG g, 0) ∧ (g.kind = 1 ∨ g.kind = 2 ∨ g.kind = 3) ∧ (bs.length : Int) = (if g.kind = 1 then 21 + (g.body.length : Int) else if g.kind = 2 then 17 else 14) := by
  unfold encG at h
  cases hg : gBody g with
  | none => rw [hg] at h; cases h
  | some y =>
    rw [hg] at h
    replace h : wrapS g.kind y = some bs := h
    unfold wrapS at h
    split at h
    · rename_i hc
      have e := Option.some.inj h
      subst e
      obtain ⟨h1, h2, h3⟩ := body_norm hg
      refine ⟨?_, ?_, ?_⟩
      · unfold decG
        rw [unS_wrap hc.2]
        simp only []
        rw [if_pos trivial, if_pos h2, h1]
      · rcases h2 with h2 | h2 | h2
        · exact .inl h2.1
        · exact .inr (.inl h2.1)
        · exact .inr (.inr h2.1)
      · rw [fr_len, hd_len]
        split at h3
        · rename_i hk; rw [if_pos hk]; omega
        · rename_i hk
          rw [if_neg hk]
          split at h3
          · rename_i hk2; rw [if_pos hk2]; omega
          · rename_i hk2; rw [if_neg hk2]; omega
    · cases h
end Go.Proofs.Ytabfmnlpipbegaa
