/- Levels as plain lists: arcs laid upon a row, one behind the other: up by the ranks, then down by them: it is the distance. -/
import Derived.Test.YtjjedebjbgpimaaGreatLvP5
import Derived.Test.YtjjedebjbgpimaaGreatLvR3
namespace Go.Proofs.YtjjedebjbgpimaaGreat
open Go.RowKit Mile
set_option maxRecDepth 100000
def rx (d : List Int) (a : Ar) : List Int := if 0 ≤ dAt d a.f.toNat ∧ (dAt d a.t.toNat < 0 ∨ dAt d a.f.toNat + a.w < dAt d a.t.toNat) then d.set a.t.toNat (dAt d a.f.toNat + a.w) else d
theorem rx_len (d : List Int) (a : Ar) : (rx d a).length = d.length := by unfold rx; split <;> simp
theorem rxs_len (A : List Ar) : ∀ d, (A.foldl rx d).length = d.length := by
  induction A with
  | nil => exact fun d => rfl
  | cons a A ih => intro d; rw [List.foldl_cons, ih, rx_len]
theorem rx_at {d : List Int} {a : Ar} (h : a.t.toNat < d.length) (e : Nat) : dAt (rx d a) e = if e = a.t.toNat ∧ 0 ≤ dAt d a.f.toNat ∧ (dAt d a.t.toNat < 0 ∨ dAt d a.f.toNat + a.w < dAt d a.t.toNat) then dAt d a.f.toNat + a.w else dAt d e := by
  unfold rx
  split
  · rename_i hc
    rw [dAt_set _ _ _ _ h]
    by_cases he : e = a.t.toNat
    · rw [if_pos he, if_pos ⟨he, hc⟩]
    · rw [if_neg he, if_neg (fun x => he x.1)]
  · rename_i hc
    rw [if_neg (fun x => hc x.2)]
theorem rx_no {d : List Int} {a : Ar} (h : dAt d a.f.toNat < 0) : rx d a = d := by unfold rx; rw [if_neg (by omega)]
theorem rxs_no (A : List Ar) (d : List Int) (h : ∀ a ∈ A, dAt d a.f.toNat < 0) : A.foldl rx d = d := by
  induction A with
  | nil => rfl
  | cons a A ih => rw [List.foldl_cons, rx_no (h a List.mem_cons_self)]; exact ih fun b hb => h b (List.mem_cons_of_mem _ hb)
section
variable {n : Nat}
theorem may_t {a : Ar} (h : mayA n a) : a.t.toNat < n ∧ 1 ≤ a.w ∧ a.w ≤ 1099511627776 ∧ a.f.toNat ≠ a.t.toNat := by unfold mayA at h; omega
theorem rx_mono {d : List Int} {a : Ar} (ha : mayA n a) (hl : d.length = n) (e : Nat) (h0 : 0 ≤ dAt d e) : 0 ≤ dAt (rx d a) e ∧ dAt (rx d a) e ≤ dAt d e := by
  have h := may_t ha
  rw [rx_at (by omega)]
  split
  · rename_i hc
    have := hc.1; subst this
    omega
  · omega
theorem rxs_mono (A : List Ar) : ∀ d, (∀ a ∈ A, mayA n a) → d.length = n → ∀ e, 0 ≤ dAt d e → 0 ≤ dAt (A.foldl rx d) e ∧ dAt (A.foldl rx d) e ≤ dAt d e := by
  induction A with
  | nil => intro d _ _ e h0; exact ⟨h0, Int.le_refl _⟩
  | cons a A ih =>
    intro d hm hl e h0
    rw [List.foldl_cons]
    have h1 := rx_mono (hm a List.mem_cons_self) hl e h0
    have h2 := ih (rx d a) (fun b hb => hm b (List.mem_cons_of_mem _ hb)) (by rw [rx_len]; exact hl) e h1.1
    omega
theorem rxs_still {e : Nat} (A : List Ar) : ∀ d, (∀ a ∈ A, mayA n a ∧ a.t.toNat ≠ e) → d.length = n → dAt (A.foldl rx d) e = dAt d e := by
  induction A with
  | nil => intro d _ _; rfl
  | cons a A ih =>
    intro d hm hl
    have h := hm a List.mem_cons_self
    rw [List.foldl_cons, ih (rx d a) (fun b hb => hm b (List.mem_cons_of_mem _ hb)) (by rw [rx_len]; exact hl), rx_at (by have := may_t h.1; omega), if_neg (fun x => h.2 x.1.symm)]
theorem rxs_done {A1 A2 : List Ar} {a : Ar} {d : List Int} (hm : ∀ b ∈ A1 ++ a :: A2, mayA n b) (hl : d.length = n) (hn : ∀ b ∈ A2, b.t.toNat ≠ a.f.toNat) (h0 : 0 ≤ dAt ((A1 ++ a :: A2).foldl rx d) a.f.toNat) :
    0 ≤ dAt ((A1 ++ a :: A2).foldl rx d) a.t.toNat ∧ dAt ((A1 ++ a :: A2).foldl rx d) a.t.toNat ≤ dAt ((A1 ++ a :: A2).foldl rx d) a.f.toNat + a.w := by
  rw [List.foldl_append, List.foldl_cons] at h0 ⊢
  have hl1 : (A1.foldl rx d).length = n := by rw [rxs_len]; exact hl
  have ha := hm a (List.mem_append_right _ List.mem_cons_self)
  have h := may_t ha
  have h2 : ∀ b ∈ A2, mayA n b := fun b hb => hm b (List.mem_append_right _ (List.mem_cons_of_mem _ hb))
  have e1 := rxs_still (n := n) (e := a.f.toNat) A2 (rx (A1.foldl rx d) a) (fun b hb => ⟨h2 b hb, hn b hb⟩) (by rw [rx_len]; exact hl1)
  rw [e1] at h0 ⊢
  have e2 := rx_at (d := A1.foldl rx d) (a := a) (by omega) a.f.toNat
  rw [if_neg (fun x => h.2.2.2 x.1)] at e2
  have e3 := rx_at (d := A1.foldl rx d) (a := a) (by omega) a.t.toNat
  have h3 : 0 ≤ dAt (rx (A1.foldl rx d) a) a.t.toNat ∧ dAt (rx (A1.foldl rx d) a) a.t.toNat ≤ dAt (rx (A1.foldl rx d) a) a.f.toNat + a.w := by
    rw [e2] at h0 ⊢
    rw [e3]
    split
    · omega
    · rename_i hc
      have : ¬ (dAt (A1.foldl rx d) a.t.toNat < 0 ∨ dAt (A1.foldl rx d) a.f.toNat + a.w < dAt (A1.foldl rx d) a.t.toNat) := fun x => hc ⟨rfl, h0, x⟩
      omega
  have h4 := rxs_mono A2 (rx (A1.foldl rx d) a) h2 (by rw [rx_len]; exact hl1) a.t.toNat h3.1
  omega
theorem rxs_snd {L : List Ar} {s : Nat} {dd : List Int} (hf : Fix (netW n L (s : Int) (-1)) dd) (A : List Ar) : ∀ d, (∀ a ∈ A, mayA n a) → SndA n L A → d.length = n → (∀ e, 0 ≤ dAt d e → 0 ≤ dAt dd e ∧ dAt dd e ≤ dAt d e) → ∀ e, 0 ≤ dAt (A.foldl rx d) e → 0 ≤ dAt dd e ∧ dAt dd e ≤ dAt (A.foldl rx d) e := by
  induction A with
  | nil => intro d _ _ _ h; exact h
  | cons a A ih =>
    intro d hm hs hl h
    rw [List.foldl_cons]
    refine ih (rx d a) (fun b hb => hm b (List.mem_cons_of_mem _ hb)) (fun b hb => hs b (List.mem_cons_of_mem _ hb)) (by rw [rx_len]; exact hl) fun e he => ?_
    have ha := hm a List.mem_cons_self
    have hb := may_t ha
    rw [rx_at (by omega)] at he ⊢
    split
    · rename_i hc
      have h1 := h a.f.toNat hc.2.1
      unfold mayA at ha
      have h2 := hs a List.mem_cons_self s a.f.toNat a.t.toNat dd (by omega) (by omega) hf h1.1
      have := hc.1; subst this
      omega
    · rename_i hc
      rw [if_neg hc] at he
      exact h e he
theorem rxs_top (A : List Ar) : ∀ (d : List Int) (c : Int), (∀ a ∈ A, mayA n a) → d.length = n → 0 ≤ c → (∀ e, dAt d e ≤ c) → ∀ e, dAt (A.foldl rx d) e ≤ c + 1099511627776 * A.length := by
  induction A with
  | nil => intro d c _ _ _ h e; have := h e; simp only [List.foldl_nil, List.length_nil]; omega
  | cons a A ih =>
    intro d c hm hl hc h e
    have hb := may_t (hm a List.mem_cons_self)
    rw [List.foldl_cons]
    have := ih (rx d a) (c + 1099511627776) (fun b hb => hm b (List.mem_cons_of_mem _ hb)) (by rw [rx_len]; exact hl) (by omega) (fun e => by
      rw [rx_at (by omega)]
      have h1 := h e
      have h2 := h a.f.toNat
      split <;> omega) e
    rw [List.length_cons]
    omega
theorem rxs_low (A : List Ar) : ∀ (d : List Int), (∀ a ∈ A, mayA n a) → d.length = n → (∀ e, -1 ≤ dAt d e) → ∀ e, -1 ≤ dAt (A.foldl rx d) e := by
  induction A with
  | nil => intro d _ _ h; exact h
  | cons a A ih =>
    intro d hm hl h
    have hb := may_t (hm a List.mem_cons_self)
    rw [List.foldl_cons]
    refine ih (rx d a) (fun b hb => hm b (List.mem_cons_of_mem _ hb)) (by rw [rx_len]; exact hl) (fun e => ?_)
    rw [rx_at (by omega)]
    have h1 := h e
    split <;> omega
theorem flat_split {β : Type} (g : Nat → List β) {k : Nat} : ∀ n, k < n → ∃ B, (List.range n).flatMap g = (List.range k).flatMap g ++ (g k ++ B) ∧ ∀ b ∈ B, ∃ j, k < j ∧ j < n ∧ b ∈ g j := by
  intro n
  induction n with
  | zero => intro h; omega
  | succ n ih =>
    intro h
    rw [List.range_succ, List.flatMap_append, List.flatMap_cons, List.flatMap_nil, List.append_nil]
    by_cases hk : k = n
    · subst hk
      exact ⟨[], by simp, fun b hb => by cases hb⟩
    · obtain ⟨B, h1, h2⟩ := ih (by omega)
      refine ⟨B ++ g n, by rw [h1]; simp, fun b hb => ?_⟩
      rcases List.mem_append.1 hb with hb | hb
      · obtain ⟨j, h3, h4, h5⟩ := h2 b hb
        exact ⟨j, h3, by omega, h5⟩
      · exact ⟨n, by omega, by omega, hb⟩
variable (P : List Ar → Nat → Int → List Int) (L : List Ar)
def upA (n : Nat) (k : Nat) : List Ar := outL (bAt n P L k).C (bV n P L k : Int)
def dnA (n : Nat) (k : Nat) : List Ar := inL (bAt n P L k).C (bV n P L k : Int)
def sqU (n k : Nat) : List Ar := (List.range k).flatMap (upA P L n)
def sqD (n k : Nat) : List Ar := (List.range k).flatMap (fun i => dnA P L n (n - 1 - i))
def row0 (n s : Nat) : List Int := (List.replicate n (-1 : Int)).set s 0
def rowU (n s k : Nat) : List Int := (sqU P L n k).foldl rx (row0 n s)
def rowD (n s k : Nat) : List Int := (sqD P L n k).foldl rx (rowU P L n s n)
variable {P L}
theorem sqU_succ (k : Nat) : sqU P L n (k + 1) = sqU P L n k ++ upA P L n k := by unfold sqU; rw [List.range_succ, List.flatMap_append, List.flatMap_cons, List.flatMap_nil, List.append_nil]
theorem sqD_succ (k : Nat) : sqD P L n (k + 1) = sqD P L n k ++ dnA P L n (n - 1 - k) := by unfold sqD; rw [List.range_succ, List.flatMap_append, List.flatMap_cons, List.flatMap_nil, List.append_nil]
theorem rowU_succ (s k : Nat) : rowU P L n s (k + 1) = (upA P L n k).foldl rx (rowU P L n s k) := by unfold rowU; rw [sqU_succ, List.foldl_append]
theorem rowD_succ (s k : Nat) : rowD P L n s (k + 1) = (dnA P L n (n - 1 - k)).foldl rx (rowD P L n s k) := by unfold rowD; rw [sqD_succ, List.foldl_append]
theorem row0_len (n s : Nat) : (row0 n s).length = n := by simp [row0]
theorem rowU_len (s k : Nat) : (rowU P L n s k).length = n := by unfold rowU; rw [rxs_len, row0_len]
theorem rowD_len (s k : Nat) : (rowD P L n s k).length = n := by unfold rowD; rw [rxs_len, rowU_len]
theorem row0_at {s : Nat} (hs : s < n) (e : Nat) : dAt (row0 n s) e = if e = s then 0 else -1 := by unfold row0; rw [dAt_set _ _ _ _ (by simp; exact hs), dAt_rep]
theorem upA_may (hok : NetOk n L) {k : Nat} (hk : k < n) : ∀ a ∈ upA P L n k, mayA n a := fun a ha => (bAt_ok P hok k (by omega)).cok.may a (mem_outL.1 ha).1
theorem dnA_may (hok : NetOk n L) {k : Nat} (hk : k < n) : ∀ a ∈ dnA P L n k, mayA n a := fun a ha => (bAt_ok P hok k (by omega)).cok.may a (mem_inL.1 ha).1
theorem sqU_may (hok : NetOk n L) {k : Nat} (hk : k ≤ n) : ∀ a ∈ sqU P L n k, mayA n a := fun a ha => by
  obtain ⟨i, hi, h⟩ := List.mem_flatMap.1 ha
  exact upA_may hok (by have := List.mem_range.1 hi; omega) a h
theorem sqD_may (hok : NetOk n L) {k : Nat} (hk : k ≤ n) : ∀ a ∈ sqD P L n k, mayA n a := fun a ha => by
  obtain ⟨i, hi, h⟩ := List.mem_flatMap.1 ha
  exact dnA_may hok (by have := List.mem_range.1 hi; omega) a h
theorem sqU_snd (hok : NetOk n L) {k : Nat} (hk : k ≤ n) : SndA n L (sqU P L n k) := fun a ha => by
  obtain ⟨i, hi, h⟩ := List.mem_flatMap.1 ha
  exact (bAt_snd hok i (by have := List.mem_range.1 hi; omega)).1 a (mem_outL.1 h).1
theorem sqD_snd (hok : NetOk n L) {k : Nat} (hk : k ≤ n) : SndA n L (sqD P L n k) := fun a ha => by
  obtain ⟨i, hi, h⟩ := List.mem_flatMap.1 ha
  exact (bAt_snd hok (n - 1 - i) (by have := List.mem_range.1 hi; omega)).1 a (mem_inL.1 h).1
theorem in_V (hok : NetOk n L) {j k : Nat} (hj : j < k) (hk : k ≤ n) : bV n P L j ∈ (bAt n P L k).V := bAt_pre P (j + 1) k (by omega) _ (by rw [bAt_V]; exact List.mem_append_right _ (by simp))
/-- Going up: each arc upwards is kept. -/
theorem rowU_up (hok : NetOk n L) (s : Nat) {k : Nat} (hk : k < n) : ∀ a ∈ outL (bAt n P L k).C (bV n P L k : Int), 0 ≤ dAt (rowU P L n s n) (bV n P L k) → 0 ≤ dAt (rowU P L n s n) a.t.toNat ∧ dAt (rowU P L n s n) a.t.toNat ≤ dAt (rowU P L n s n) (bV n P L k) + a.w := by
  intro a ha h0
  obtain ⟨hac, haf⟩ := mem_outL.1 ha
  obtain ⟨X, Y, hXY⟩ := List.append_of_mem ha
  obtain ⟨B, hB, hBj⟩ := flat_split (upA P L n) (k := k) n hk
  have hsq : sqU P L n n = (sqU P L n k ++ X) ++ a :: (Y ++ B) := by
    unfold sqU
    rw [hB, show upA P L n k = outL (bAt n P L k).C (bV n P L k : Int) from rfl, hXY]; simp
  have hf : a.f.toNat = bV n P L k := by rw [haf]; rfl
  have hm := sqU_may (P := P) hok (Nat.le_refl n)
  rw [hsq] at hm
  have := rxs_done (d := row0 n s) hm (row0_len n s) (fun b hb e => by
    rcases List.mem_append.1 hb with hb | hb
    · have hbo : b ∈ outL (bAt n P L k).C (bV n P L k : Int) := by rw [hXY]; exact List.mem_append_right _ (List.mem_cons_of_mem _ hb)
      obtain ⟨h1, h2⟩ := mem_outL.1 hbo
      have := (bAt_ok P hok k (by omega)).cok.may b h1
      unfold mayA at this
      omega
    · obtain ⟨j, h1, h2, h3⟩ := hBj b hb
      obtain ⟨h4, h5⟩ := mem_outL.1 h3
      have h6 := ((bAt_ok P hok j (by omega)).out b h4 (bV n P L k) (in_V hok h1 (by omega))).2
      have := (bAt_ok P hok j (by omega)).cok.may b h4
      unfold mayA at this
      omega) (by rw [← hsq, hf]; exact h0)
  rw [← hsq, hf] at this
  exact this
/-- Coming down: each arc downwards is kept. -/
theorem rowD_dn (hok : NetOk n L) (s : Nat) {k : Nat} (hk : k < n) : ∀ a ∈ inL (bAt n P L k).C (bV n P L k : Int), 0 ≤ dAt (rowD P L n s n) a.f.toNat → 0 ≤ dAt (rowD P L n s n) (bV n P L k) ∧ dAt (rowD P L n s n) (bV n P L k) ≤ dAt (rowD P L n s n) a.f.toNat + a.w := by
  intro a ha h0
  obtain ⟨hac, hat⟩ := mem_inL.1 ha
  obtain ⟨X, Y, hXY⟩ := List.append_of_mem ha
  obtain ⟨B, hB, hBj⟩ := flat_split (fun i => dnA P L n (n - 1 - i)) (k := n - 1 - k) n (by omega)
  have hkk : n - 1 - (n - 1 - k) = k := by omega
  have hsq : sqD P L n n = (sqD P L n (n - 1 - k) ++ X) ++ a :: (Y ++ B) := by
    unfold sqD
    rw [hB]
    show _ ++ (dnA P L n (n - 1 - (n - 1 - k)) ++ B) = _
    rw [hkk, show dnA P L n k = inL (bAt n P L k).C (bV n P L k : Int) from rfl, hXY]; simp
  have hf : a.t.toNat = bV n P L k := by rw [hat]; rfl
  have hm := sqD_may (P := P) hok (Nat.le_refl n)
  rw [hsq] at hm
  have hac0 := (bAt_ok P hok k (by omega)).cok.may a hac
  have hao := (bAt_ok P hok k (by omega)).out a hac
  unfold mayA at hac0
  have := rxs_done (d := rowU P L n s n) hm (rowU_len s n) (fun b hb e => by
    rcases List.mem_append.1 hb with hb | hb
    · have hbo : b ∈ inL (bAt n P L k).C (bV n P L k : Int) := by rw [hXY]; exact List.mem_append_right _ (List.mem_cons_of_mem _ hb)
      obtain ⟨h1, h2⟩ := mem_inL.1 hbo
      omega
    · obtain ⟨j, h1, h2, h3⟩ := hBj b hb
      obtain ⟨h4, h5⟩ := mem_inL.1 h3
      have h6 := (hao (bV n P L (n - 1 - j)) (in_V hok (by omega) (by omega))).1
      omega) (by rw [← hsq]; exact h0)
  rw [← hsq, hf] at this
  exact this
theorem row0_top {s : Nat} (hs : s < n) : ∀ e, dAt (row0 n s) e ≤ 0 := fun e => by rw [row0_at hs]; split <;> omega
theorem row0_low {s : Nat} (hs : s < n) : ∀ e, -1 ≤ dAt (row0 n s) e := fun e => by rw [row0_at hs]; split <;> omega
theorem rowU_low (hok : NetOk n L) {s k : Nat} (hs : s < n) (hk : k ≤ n) : ∀ e, -1 ≤ dAt (rowU P L n s k) e := rxs_low _ _ (sqU_may hok hk) (row0_len n s) (row0_low hs)
theorem rowD_low (hok : NetOk n L) {s k : Nat} (hs : s < n) (hk : k ≤ n) : ∀ e, -1 ≤ dAt (rowD P L n s k) e := rxs_low _ _ (sqD_may hok hk) (rowU_len s n) (rowU_low hok hs (Nat.le_refl n))
theorem flat_le {β : Type} (g : Nat → List β) (c : Nat) : ∀ k, (∀ j, j < k → (g j).length ≤ c) → ((List.range k).flatMap g).length ≤ k * c := by
  intro k
  induction k with
  | zero => intro _; simp
  | succ k ih =>
    intro h
    rw [List.range_succ, List.flatMap_append, List.flatMap_cons, List.flatMap_nil, List.append_nil, List.length_append, Nat.succ_mul]
    have h1 := ih fun j hj => h j (by omega)
    have h2 := h k (by omega)
    omega
theorem upA_len (hok : NetOk n L) {k : Nat} (hk : k < n) : (upA P L n k).length ≤ n := by
  have := upV_len (V := (bAt n P L n).V) (bAt_ok P hok n (Nat.le_refl _)).tok (bV n P L k : Int)
  rw [up_eq P hok hk] at this; exact this
theorem dnA_len (hok : NetOk n L) {k : Nat} (hk : k < n) : (dnA P L n k).length ≤ n := by
  have := downV_len (V := (bAt n P L n).V) (bAt_ok P hok n (Nat.le_refl _)).tok (bV n P L k : Int)
  rw [dn_eq P hok hk] at this; exact this
/-- In the midst of going up: what stands in the row is small. -/
theorem rowU_top (hok : NetOk n L) (hn : n ≤ 20) {s k : Nat} (hs : s < n) (hk : k < n) (i : Nat) : ∀ e, dAt (((upA P L n k).take i).foldl rx (rowU P L n s k)) e ≤ 1000000000000000 := fun e => by
  have h1 := rxs_top (n := n) (sqU P L n k ++ (upA P L n k).take i) (row0 n s) 0 (fun a ha => by
    rcases List.mem_append.1 ha with h | h
    · exact sqU_may hok (by omega) a h
    · exact upA_may hok hk a (List.mem_of_mem_take h)) (row0_len n s) (by omega) (row0_top hs) e
  rw [List.foldl_append, List.length_append] at h1
  have h2 : (sqU P L n k).length ≤ k * n := flat_le _ _ _ fun j hj => upA_len hok (by omega)
  have h3 : ((upA P L n k).take i).length ≤ n := by have := upA_len (P := P) hok hk; rw [List.length_take]; omega
  have h4 : k * n ≤ 20 * 20 := Nat.mul_le_mul (by omega) hn
  unfold rowU
  omega
theorem rowD_top (hok : NetOk n L) (hn : n ≤ 20) {s k : Nat} (hs : s < n) (hk : k < n) (i : Nat) : ∀ e, dAt (((dnA P L n (n - 1 - k)).take i).foldl rx (rowD P L n s k)) e ≤ 1000000000000000 := fun e => by
  have h1 := rxs_top (n := n) (sqU P L n n ++ (sqD P L n k ++ (dnA P L n (n - 1 - k)).take i)) (row0 n s) 0 (fun a ha => by
    rcases List.mem_append.1 ha with h | h
    · exact sqU_may hok (Nat.le_refl n) a h
    · rcases List.mem_append.1 h with h | h
      · exact sqD_may hok (by omega) a h
      · exact dnA_may hok (by omega) a (List.mem_of_mem_take h)) (row0_len n s) (by omega) (row0_top hs) e
  rw [List.foldl_append, List.foldl_append, List.length_append, List.length_append] at h1
  have h2 : (sqU P L n n).length ≤ n * n := flat_le _ _ _ fun j hj => upA_len hok (by omega)
  have h3 : (sqD P L n k).length ≤ k * n := flat_le _ _ _ fun j hj => dnA_len hok (by omega)
  have h4 : ((dnA P L n (n - 1 - k)).take i).length ≤ n := by have := dnA_len (P := P) hok (k := n - 1 - k) (by omega); rw [List.length_take]; omega
  have h5 : k * n ≤ 20 * 20 := Nat.mul_le_mul (by omega) hn
  have h6 : n * n ≤ 20 * 20 := Nat.mul_le_mul hn hn
  unfold rowD rowU
  omega
/-- It is the distance. -/
theorem rowD_far (hok : NetOk n L) (hn : n ≤ 512) (hP : ∀ L, DOk n L (P L)) (hw : ∀ a ∈ L, a.w ≤ 65535) {s : Nat} (hs : s < n) {d : List Int} (hd : Fix (netW n L (s : Int) (-1)) d) : rowD P L n s n = d := by
  have hdd := fun u : Nat => netW_ex n hn L (u : Int) (-1)
  obtain ⟨dd, hdd⟩ := Classical.axiomOfChoice hdd
  have hsd : dd s = d := (hdd s).uniq hd
  have hgm := rxs_mono (sqU P L n n) (row0 n s) (sqU_may hok (Nat.le_refl n)) (row0_len n s)
  have hfm := rxs_mono (sqD P L n n) (rowU P L n s n) (sqD_may hok (Nat.le_refl n)) (rowU_len s n)
  have hs0 : dAt (row0 n s) s = 0 := by rw [row0_at hs, if_pos rfl]
  have hg := hgm s (by omega)
  have hsnd : ∀ e, 0 ≤ dAt (rowD P L n s n) e → 0 ≤ dAt d e ∧ dAt d e ≤ dAt (rowD P L n s n) e := by
    refine rxs_snd hd _ _ (sqD_may hok (Nat.le_refl n)) (sqD_snd hok (Nat.le_refl n)) (rowU_len s n) (rxs_snd hd _ _ (sqU_may hok (Nat.le_refl n)) (sqU_snd hok (Nat.le_refl n)) (row0_len n s) fun e he => ?_)
    rw [row0_at hs] at he ⊢
    split
    · rename_i h1
      subst h1
      have := hd.st e ⟨rfl, by omega⟩ hs
      omega
    · rename_i h1
      rw [if_neg h1] at he; omega
  have hud := up_down hok hn hP hdd (fun u => dist_top hn hw (hdd u)) (dAt (rowD P L n s n)) (dAt (rowU P L n s n)) (fun k hk => rowU_up hok s hk) (fun v _ => hfm v) (fun k hk => rowD_dn hok s hk) n 0 (by omega) s
  apply List.ext_getElem (by rw [rowD_len, hd.len]; rfl)
  intro i h1 h2
  rw [← dAt_eq, ← dAt_eq]
  have hi : i < n := by rw [rowD_len] at h1; exact h1
  have l1 := rowD_low (P := P) hok hs (Nat.le_refl n) i
  have l2 := hd.low i
  have h3 := hud i hs hi (by show s ∉ []; simp) (by show i ∉ []; simp) hg.1
  rw [hsd] at h3
  have h4 := hsnd i
  have hg2 : dAt (rowU P L n s n) s ≤ 0 := by have := hg.2; rw [hs0] at this; exact this
  by_cases h5 : 0 ≤ dAt d i
  · have := h3 h5; have := h4 this.1; omega
  · have : ¬ 0 ≤ dAt (rowD P L n s n) i := fun x => h5 (h4 x).1
    omega
end
end Go.Proofs.YtjjedebjbgpimaaGreat
