/- Datagrams, as plain bytes. -/
import Derived.Test.YtabfmnlpipbegaaFr3
import Derived.Test.YtabfmnlpipbegaaRdrL
namespace Go.Proofs.Ytabfmnlpipbegaa
open Go.RowKit Mile
set_option maxRecDepth 100000
structure GrD where
  conn : Int
  kind : Int
  seq : Int
  ack : Int
  code : Int
  body : List Int
/-- A datagram's bytes ahead of the frame. -/
def gBody (g : GrD) : Option (List Int) :=
  if g.kind = 1 then (numsS 4 [g.seq, g.ack] (numsS 4 [g.conn] (some []))).map (· ++ g.body)
  else if g.kind = 2 then numsS 4 [g.ack] (numsS 4 [g.conn] (some []))
  else if g.kind = 3 then numsS 1 [g.code] (numsS 4 [g.conn] (some []))
  else none
def encG (g : GrD) : Option (List Int) := (gBody g).bind (wrapS g.kind)
abbrev RS2 := Option (List Int)
def rS1 (b : List Int) : RS2 := (numR 4 (some b)).2
def rS2 (b : List Int) : RS2 := (numR 4 (rS1 b)).2
def rS3 (b : List Int) : RS2 := (numR 4 (rS2 b)).2
/-- What stands where Encode writes it. -/
def pG2 (kind : Int) (b : List Int) : GrD :=
  if kind = 1 then ⟨(numR 4 (some b)).1, kind, (numR 4 (rS1 b)).1, (numR 4 (rS2 b)).1, 0, (takeS (((rS3 b).getD []).length : Int) (rS3 b)).1⟩
  else if kind = 2 then ⟨(numR 4 (some b)).1, kind, 0, (numR 4 (rS1 b)).1, 0, []⟩
  else if kind = 3 then ⟨(numR 4 (some b)).1, kind, 0, 0, (numR 1 (rS1 b)).1, []⟩
  else ⟨(numR 4 (some b)).1, kind, 0, 0, 0, []⟩
def doneG (kind : Int) (b : List Int) : Prop := (kind = 1 ∧ 12 ≤ b.length) ∨ (kind = 2 ∧ b.length = 8) ∨ (kind = 3 ∧ b.length = 5)
def zG : GrD := ⟨0, 0, 0, 0, 0, []⟩
theorem digs_undigs : ∀ (bs : List Int) (acc : Int), (∀ b ∈ bs, 0 ≤ b ∧ b < 256) → 0 ≤ acc → digs (undigs acc bs) bs.length = bs := by
  intro bs
  induction bs with
  | nil => intro acc _ _; rfl
  | cons b r ih =>
    intro acc h ha
    have hb := h b (by simp)
    have e : undigs acc (b :: r) = undigs (acc * 256 + b) r := rfl
    rw [e, List.length_cons]
    show _ :: digs _ r.length = _
    rw [ih _ (fun c hc => h c (by simp [hc])) (by omega)]
    congr 1
    have hg : ∀ (bs : List Int) (acc : Int), 0 ≤ acc → (∀ b ∈ bs, 0 ≤ b ∧ b < 256) → undigs acc bs / 256 ^ bs.length = acc := by
      intro bs
      induction bs with
      | nil => intro acc _ _; simp [undigs]
      | cons c r ih =>
        intro acc h0 h
        have hc := h c (by simp)
        have e : undigs acc (c :: r) = undigs (acc * 256 + c) r := rfl
        rw [e, List.length_cons, Int.pow_succ, ← Int.ediv_ediv_of_nonneg (Int.pow_nonneg (by omega)), ih _ (by omega) (fun x hx => h x (by simp [hx]))]
        omega
    have e2 : (2 : Int) ^ (8 * r.length) = 256 ^ r.length := by rw [show (256 : Int) = 2 ^ 8 by decide, ← Int.pow_mul]
    rw [e2, hg r _ (by omega) (fun c hc => h c (by simp [hc]))]
    omega
theorem fits_undigs (bs : List Int) (n : Nat) (hn : bs.length = n) (h : ∀ b ∈ bs, 0 ≤ b ∧ b < 256) : fits n (undigs 0 bs) = true := by
  subst hn
  unfold fits
  have h1 := undigs_nonneg bs 0 (by omega) h
  have h2 := undigs_bound bs 0 (by omega) h
  have e2 : (2 : Int) ^ (8 * bs.length) = 256 ^ bs.length := by rw [show (256 : Int) = 2 ^ 8 by decide, ← Int.pow_mul]
  rw [e2]
  simp; omega
theorem nums_app (s : Nat) (x : Int) (r bs : List Int) (h1 : sizeOk (s : Int) = true) (hx : fits s x = true) : numsS (s : Int) (x :: r) (some bs) = numsS (s : Int) r (some (bs ++ digs x s)) := by
  show (if sizeOk (s : Int) then numsL (s : Int).toNat bs (x :: r) else none) = (if sizeOk (s : Int) then numsL (s : Int).toNat (bs ++ digs x s) r else none)
  rw [if_pos h1, if_pos h1, Int.toNat_natCast]
  show (if fits s x then _ else _) = _
  rw [if_pos hx]
theorem nums_nil2 (s : Nat) (bs : List Int) (h1 : sizeOk (s : Int) = true) : numsS (s : Int) [] (some bs) = some bs := by
  show (if sizeOk (s : Int) then numsL (s : Int).toNat bs [] else none) = _
  rw [if_pos h1]; rfl
theorem numR_ok (s : Nat) (h1 : sizeOk (s : Int) = true) (l m : List Int) (hl : l.length = s) : numR (s : Int) (some (l ++ m)) = (undigs 0 l, some m) := by
  unfold numR takeS
  rw [if_pos h1]
  have hc : 0 ≤ (s : Int) ∧ (s : Int) ≤ (((some (l ++ m)).getD []).length : Int) := by simp; omega
  rw [if_pos hc]
  simp [← hl]
theorem numR_bad (s : Nat) (h1 : sizeOk (s : Int) = true) (l : List Int) (hl : l.length < s) : numR (s : Int) (some l) = (0, none) := by
  unfold numR takeS
  rw [if_pos h1, if_neg (by simp; omega)]
  rfl
theorem numR_none4 (s : Nat) (h1 : sizeOk (s : Int) = true) : numR (s : Int) none = (0, none) := by
  unfold numR takeS
  rw [if_pos h1]
  have : 0 < s := by have := of_decide_eq_true h1; omega
  rw [if_neg (by simp; omega)]
  rfl
theorem ok4 : sizeOk ((4 : Nat) : Int) = true := by decide
theorem ok1 : sizeOk ((1 : Nat) : Int) = true := by decide
theorem split4 (b : List Int) (h : 4 ≤ b.length) : ∃ l m, b = l ++ m ∧ l.length = 4 ∧ m.length + 4 = b.length := ⟨b.take 4, b.drop 4, by simp, by simp; omega, by simp; omega⟩
/-- A reader that has come to its end: what was read is written as it was. -/
theorem gBody_done {kind : Int} {b : List Int} (hb : ∀ x ∈ b, 0 ≤ x ∧ x < 256) (hd : doneG kind b) : gBody (pG2 kind b) = some b := by
  rcases hd with ⟨rfl, hl⟩ | ⟨rfl, hl⟩ | ⟨rfl, hl⟩
  · obtain ⟨l1, m1, rfl, h1, _⟩ := split4 b (by omega)
    obtain ⟨l2, m2, rfl, h2, _⟩ := split4 m1 (by simp at hl; omega)
    obtain ⟨l3, m3, rfl, h3, _⟩ := split4 m2 (by simp at hl; omega)
    have e1 : numR 4 (some (l1 ++ (l2 ++ (l3 ++ m3)))) = (undigs 0 l1, some (l2 ++ (l3 ++ m3))) := numR_ok 4 ok4 _ _ h1
    have e2 : numR 4 (some (l2 ++ (l3 ++ m3))) = (undigs 0 l2, some (l3 ++ m3)) := numR_ok 4 ok4 _ _ h2
    have e3 : numR 4 (some (l3 ++ m3)) = (undigs 0 l3, some m3) := numR_ok 4 ok4 _ _ h3
    have r1 : ∀ x ∈ l1, 0 ≤ x ∧ x < 256 := fun x hx => hb x (by simp [hx])
    have r2 : ∀ x ∈ l2, 0 ≤ x ∧ x < 256 := fun x hx => hb x (by simp [hx])
    have r3 : ∀ x ∈ l3, 0 ≤ x ∧ x < 256 := fun x hx => hb x (by simp [hx])
    unfold pG2 rS3 rS2 rS1
    rw [if_pos rfl, e1]
    simp only []
    rw [e2]
    simp only []
    rw [e3]
    unfold gBody
    simp only [if_true]
    rw [show ((4 : Int)) = ((4 : Nat) : Int) from rfl, nums_app 4 _ _ _ ok4 (fits_undigs l1 4 h1 r1), nums_nil2 4 _ ok4, nums_app 4 _ _ _ ok4 (fits_undigs l2 4 h2 r2), nums_app 4 _ _ _ ok4 (fits_undigs l3 4 h3 r3), nums_nil2 4 _ ok4]
    have d1 := digs_undigs l1 0 r1 (by omega)
    have d2 := digs_undigs l2 0 r2 (by omega)
    have d3 := digs_undigs l3 0 r3 (by omega)
    rw [h1] at d1
    rw [h2] at d2
    rw [h3] at d3
    rw [d1, d2, d3]
    have ht : (takeS (((some m3).getD []).length : Int) (some m3)).1 = m3 := by unfold takeS; rw [if_pos (by simp)]; simp
    rw [ht]
    simp
  · obtain ⟨l1, m1, rfl, h1, _⟩ := split4 b (by omega)
    obtain ⟨l2, m2, rfl, h2, h2b⟩ := split4 m1 (by simp at hl; omega)
    have hm : m2 = [] := List.eq_nil_of_length_eq_zero (by simp at hl; omega)
    subst hm
    have e1 : numR 4 (some (l1 ++ (l2 ++ []))) = (undigs 0 l1, some (l2 ++ [])) := numR_ok 4 ok4 _ _ h1
    have e2 : numR 4 (some (l2 ++ [])) = (undigs 0 l2, some []) := numR_ok 4 ok4 _ _ h2
    have r1 : ∀ x ∈ l1, 0 ≤ x ∧ x < 256 := fun x hx => hb x (by simp [hx])
    have r2 : ∀ x ∈ l2, 0 ≤ x ∧ x < 256 := fun x hx => hb x (by simp [hx])
    unfold pG2 rS1
    rw [if_neg (by decide), if_pos rfl, e1]
    simp only []
    rw [e2]
    unfold gBody
    simp only [if_true]
    rw [if_neg (by decide)]
    rw [show ((4 : Int)) = ((4 : Nat) : Int) from rfl, nums_app 4 _ _ _ ok4 (fits_undigs l1 4 h1 r1), nums_nil2 4 _ ok4, nums_app 4 _ _ _ ok4 (fits_undigs l2 4 h2 r2), nums_nil2 4 _ ok4]
    have d1 := digs_undigs l1 0 r1 (by omega)
    have d2 := digs_undigs l2 0 r2 (by omega)
    rw [h1] at d1
    rw [h2] at d2
    rw [d1, d2]
    simp
  · obtain ⟨l1, m1, rfl, h1, _⟩ := split4 b (by omega)
    have hl2 : m1.length = 1 := by simp at hl; omega
    have e1 : numR 4 (some (l1 ++ m1)) = (undigs 0 l1, some m1) := numR_ok 4 ok4 _ _ h1
    have e2 : numR 1 (some (m1 ++ [])) = (undigs 0 m1, some []) := numR_ok 1 ok1 _ _ hl2
    rw [List.append_nil] at e2
    have r1 : ∀ x ∈ l1, 0 ≤ x ∧ x < 256 := fun x hx => hb x (by simp [hx])
    have r2 : ∀ x ∈ m1, 0 ≤ x ∧ x < 256 := fun x hx => hb x (by simp [hx])
    unfold pG2 rS1
    rw [if_neg (by decide), if_neg (by decide), if_pos rfl, e1]
    simp only []
    rw [e2]
    unfold gBody
    simp only [if_true]
    rw [if_neg (by decide), if_neg (by decide)]
    rw [show ((4 : Int)) = ((4 : Nat) : Int) from rfl, show ((1 : Int)) = ((1 : Nat) : Int) from rfl, nums_app 4 _ _ _ ok4 (fits_undigs l1 4 h1 r1), nums_nil2 4 _ ok4, nums_app 1 _ _ _ ok1 (fits_undigs m1 1 hl2 r2), nums_nil2 1 _ ok1]
    have d1 := digs_undigs l1 0 r1 (by omega)
    have d2 := digs_undigs m1 0 r2 (by omega)
    rw [h1] at d1
    rw [hl2] at d2
    rw [d1, d2]
    simp
/-- How long what is written is. -/
theorem gBody_len {g : GrD} {b : List Int} (h : gBody g = some b) : doneG g.kind b := by
  have len4 : ∀ (s : Nat) (l bs cs : List Int), numsS (s : Int) l (some bs) = some cs → cs.length = bs.length + s * l.length := by
    intro s l bs cs hh
    replace hh : (if sizeOk (s : Int) then numsL (s : Int).toNat bs l else none) = some cs := hh
    split at hh
    · exact numsL_length _ _ _ _ hh
    · cases hh
  unfold gBody at h
  have hc : ∀ x, numsS 4 [g.conn] (some []) = some x → x.length = 4 := fun x hx => by have := len4 4 [g.conn] [] x hx; simpa using this
  cases hx : numsS 4 [g.conn] (some []) with
  | none =>
    rw [hx] at h
    have hn : ∀ (s : Int) (l : List Int), numsS s l none = none := fun s l => rfl
    rw [hn, hn, hn] at h
    exfalso
    split at h
    · cases h
    · split at h
      · cases h
      · split at h
        · cases h
        · cases h
  | some x =>
    have hx4 := hc x hx
    rw [hx] at h
    split at h
    · rename_i hk
      cases hy : numsS 4 [g.seq, g.ack] (some x) with
      | none => rw [hy] at h; cases h
      | some y =>
        rw [hy] at h
        have h2 := len4 4 [g.seq, g.ack] x y hy
        simp at h h2
        exact .inl ⟨hk, by rw [← h]; simp; omega⟩
    · split at h
      · rename_i hk
        have h2 := len4 4 [g.ack] x b h
        simp at h2
        exact .inr (.inl ⟨hk, by omega⟩)
      · split at h
        · rename_i hk
          have h2 := len4 1 [g.code] x b h
          simp at h2
          exact .inr (.inr ⟨hk, by omega⟩)
        · cases h
theorem pG2_kind (kind : Int) (b : List Int) : (pG2 kind b).kind = kind := by
  unfold pG2
  split
  · rfl
  · split
    · rfl
    · split <;> rfl
/-- A frame is its kind's and body's. -/
theorem fr_same {kind : Int} {x y : List Int} (hx : x.length ≤ 2000) (hy : y.length ≤ 2000) (h : frL (hdL kind x) = frL (hdL kind y)) : x = y := by
  have h1 := unS_wrap (kind := kind) hx
  rw [h, unS_wrap (kind := kind) hy] at h1
  simpa using h1.symm
/-- What is read of a frame's kind and body is written as that frame just if the reader came to its end. -/
theorem enc_iff {kind : Int} {b : List Int} (hk : 0 ≤ kind ∧ kind < 256) (hl : b.length ≤ 2000) (hb : ∀ x ∈ b, 0 ≤ x ∧ x < 256) : encG (pG2 kind b) = some (frL (hdL kind b)) ↔ doneG kind b := by
  constructor
  · intro h
    unfold encG at h
    cases hg : gBody (pG2 kind b) with
    | none => rw [hg] at h; cases h
    | some x =>
      rw [hg, pG2_kind] at h
      replace h : wrapS kind x = some (frL (hdL kind b)) := h
      unfold wrapS at h
      split at h
      · rename_i hc
        have := fr_same hc.2 hl (Option.some.inj h)
        subst this
        have := gBody_len hg
        rwa [pG2_kind] at this
      · cases h
  · intro h
    unfold encG
    rw [gBody_done hb h, pG2_kind]
    show wrapS kind b = _
    unfold wrapS
    rw [if_pos ⟨hk, hl⟩]
end Go.Proofs.Ytabfmnlpipbegaa
