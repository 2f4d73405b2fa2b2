/- The law FrameTurned, walked. -/
import Derived.Test.YtabfmnlpipbegaaBack3
import Derived.Test.YtabfmnlpipbegaaTwo
import Derived.Laws.OwnMore
namespace Mile
open Go Go.RowKit
theorem opens_array3 {α : Type} {P : Program} {t e : TypeId} {E : Enc α} (ht : P.underlying t = some (.array 3 e)) (hc : P.cellsOf t = E.cells + (E.cells + E.cells)) (hce : P.cellsOf e = E.cells) (hE : Opens P e E) : Opens P t (encPair E (encPair E E)) := by
  intro H enc w base spare held fuel cs x h
  obtain ⟨xs, m, _, _, hl, hxl, hf⟩ := DataW.trod_array ht h
  have h0 := hf 0 (by omega)
  have h1 := hf 1 (by omega)
  have h2 := hf 2 (by omega)
  rw [List.getElem?_eq_getElem (show 0 < xs.length by omega)] at h0
  rw [List.getElem?_eq_getElem (show 1 < xs.length by omega)] at h1
  rw [List.getElem?_eq_getElem (show 2 < xs.length by omega)] at h2
  rw [hce] at h0 h1 h2
  obtain ⟨a, ha, hoka⟩ := hE H enc w base spare held m _ _ h0
  obtain ⟨b, hb, hokb⟩ := hE H enc w base spare held m _ _ h1
  obtain ⟨c, hc', hokc⟩ := hE H enc w base spare held m _ _ h2
  refine ⟨(a, b, c), ?_, hoka, hokb, hokc⟩
  show cs = E.img a ++ (E.img b ++ E.img c)
  rw [← ha, ← hb, ← hc']
  simp only [Nat.zero_mul, List.drop_zero, Nat.one_mul]
  rw [List.take_of_length_le (show (cs.drop (2 * E.cells)).length ≤ E.cells by rw [List.length_drop]; omega), show 2 * E.cells = E.cells + E.cells by omega, ← List.drop_drop, List.take_append_drop, List.take_append_drop]

theorem foldl_flip_len : ∀ (ps : List (Nat × Nat)) (l : List Int), (ps.foldl flipL l).length = l.length
  | [], _ => rfl
  | p :: ps, l => by rw [List.foldl_cons, foldl_flip_len ps, flipL_len]
theorem foldl_flip_bytes : ∀ (ps : List (Nat × Nat)) (l : List Int), (∀ x ∈ l, 0 ≤ x ∧ x < 256) → ∀ x ∈ ps.foldl flipL l, 0 ≤ x ∧ x < 256
  | [], _, h => h
  | p :: ps, l, h => foldl_flip_bytes ps _ (flipL_bytes h)
theorem foldl_flip_at {i : Nat} : ∀ (ps : List (Nat × Nat)) (l : List Int), (∀ p ∈ ps, p.1 ≠ i) → (ps.foldl flipL l).getD i 0 = l.getD i 0
  | [], _, _ => rfl
  | p :: ps, l, h => by
    rw [List.foldl_cons, foldl_flip_at ps _ (fun q hq => h q (List.mem_cons_of_mem _ hq))]
    unfold flipL
    simp only [List.getD, List.getElem?_set_ne (h p List.mem_cons_self)]
/-- A frame with one to three bits turned, but in its length, is none, or is as it was. -/
theorem turned {kd : Int} {body b : List Int} (hk : 0 ≤ kd ∧ kd < 256) (hbb : ∀ x ∈ body, 0 ≤ x ∧ x < 256) (hn : body.length ≤ 400) (hbd : frL (hdL kd body) = b) (ps : List (Nat × Nat)) (hps : ps.length ≤ 3) (hok : ∀ p ∈ ps, (p.1 < body.length + 9 ∧ p.2 < 8) ∧ p.1 ≠ 3 ∧ p.1 ≠ 4) :
    ps.foldl flipL b = b ∨ unS (ps.foldl flipL b) = ((0, []), 2) := by
  by_cases hf : framed (ps.foldl flipL b)
  · left
    have hbl : b.length = (body.length + 5) + 4 := by rw [← hbd, fr_len, hd_len]
    have hbr : ∀ x ∈ b, 0 ≤ x ∧ x < 256 := by rw [← hbd]; exact fr_range (hd_range hk hbb)
    have h5 : 5 ≤ (hdL kd body).length := by rw [hd_len]; omega
    have hfb : framed b := by
      rw [← hbd]
      refine (framed_fr h5).2 ⟨hd_long (by omega), ?_⟩
      rw [hd_form]; rfl
    have hl := foldl_flip_len ps b
    have z1 := hf.2.2
    have z0 := hfb.2.2
    rw [hl, hbl, Nat.add_sub_cancel] at z1
    rw [hbl, Nat.add_sub_cancel] at z0
    obtain ⟨a1, a2⟩ := lack_zero (m := body.length + 5) hbl hbr z0
    obtain ⟨c1, c2⟩ := lack_zero (m := body.length + 5) (by rw [hl]; exact hbl) (foldl_flip_bytes ps b hbr) z1
    exact flips_seen (by omega) hbl hbr a1 a2 ps hps (fun p hp => ⟨by have := (hok p hp).1.1; omega, (hok p hp).1.2⟩) c1 c2
  · exact Or.inr (unS_bad hf)
theorem strOf_inj {cs bs : List Int} (hc : ∀ x ∈ cs, 0 ≤ x ∧ x < 256) (hb : ∀ x ∈ bs, 0 ≤ x ∧ x < 256) (h : strOf cs = strOf bs) : cs = bs := by
  have key : ∀ (l : List Int) (r : ByteArray), (l.foldl (fun r n => r.push (UInt8.ofNat n.toNat)) r).data.toList = r.data.toList ++ l.map (fun n => UInt8.ofNat n.toNat) := by
    intro l
    induction l with
    | nil => intro r; simp
    | cons n l ih => intro r; rw [List.foldl_cons, ih]; simp
  have e1 := key cs ByteArray.empty
  have e2 := key bs ByteArray.empty
  have h' : (cs.foldl (fun r n => r.push (UInt8.ofNat n.toNat)) ByteArray.empty).data.toList = (bs.foldl (fun r n => r.push (UInt8.ofNat n.toNat)) ByteArray.empty).data.toList := by
    have : strOf cs = strOf bs := h
    unfold strOf at this; rw [this]
  rw [e1, e2, List.append_cancel_left_eq] at h'
  clear e1 e2 h key
  induction cs generalizing bs with
  | nil => cases bs with
    | nil => rfl
    | cons b bs => simp at h'
  | cons c cs ih =>
    cases bs with
    | nil => simp at h'
    | cons b bs =>
      simp only [List.map_cons, List.cons.injEq] at h'
      have h1 := hc c (by simp)
      have h2 := hb b (by simp)
      have h3 := congrArg UInt8.toNat h'.1
      simp at h3
      rw [ih (fun x hx => hc x (by simp [hx])) (fun x hx => hb x (by simp [hx])) h'.2, show c = b by omega]
theorem bytes_beq_ne {a b : ByteArray} (h : a ≠ b) : (a == b) = false := by
  cases a with
  | mk x =>
    cases b with
    | mk y =>
      show (x == y) = false
      rw [beq_eq_false_iff_ne]
      intro e; exact h (by rw [e])
end Mile
namespace Go.Proofs.Ytabfmnlpipbegaa
open Go.RowKit Mile
set_option maxRecDepth 100000

theorem opens_three : Opens Try.prog 55 (encPair (encInt .i64) (encPair (encInt .i64) (encInt .i64))) := opens_array3 Try.underlying55 (by kernel_rfl) (by kernel_rfl) (opens_int Try.underlying3)
theorem own_some3' {w : World} {base : Nat} {e : TypeId} {size : Nat} {a : Option Addr} {n c : Nat} {xs : List Value} (h : w.ownsRow base e size (.slice a n c) n xs) (hn : 0 < n) : ∃ g, a = some ⟨g, 0, none⟩ := by
  rcases h.2 with ⟨h', _⟩ | ⟨g, cap, cur, h', _⟩
  · simp only [Value.slice.injEq] at h'; omega
  · cases h'; exact ⟨g, rfl⟩

end Go.Proofs.Ytabfmnlpipbegaa
