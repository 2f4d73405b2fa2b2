/- A sender under way whose waits are all alike: the laws' state. -/
import Derived.Test.YtopldodfkcgmhaaAwake25
import Derived.Test.YtopldodfkcgmhaaRound
import Derived.Test.YtopldodfkcgmhaaIRowP
import Derived.Test.YtopldodfkcgmhaaOpens
namespace Go.Proofs.Ytopldodfkcgmhaa
open Go.RowKit Mile Go.Maps
set_option maxRecDepth 100000
theorem opens_il25 : Opens Try.prog 44 (encSlice (encInt .i64)) := opens_slice Try.underlying44 (by kernel_rfl) (opens_int Try.underlying3) (by decide)
structure SW (w0 w : World) (p tp W F n B M R : Nat) (d : Int) (c : Nat) : Prop where
  ex : ∃ bs : List (List Int), bs.length = n ∧ (∀ x ∈ bs, x.length ≤ 1000) ∧ S1 (fun _ => False) w0 w p tp W F false B M R (LL F n d c) bs
section
variable {w0 w : World} {p tp W F n B M R : Nat} {d : Int} {c : Nat}
theorem SW.mod (h : SW w0 w p tp W F n B M R d c) : Mod (fun _ => False) w0 w := by obtain ⟨_, _, _, h⟩ := h.ex; exact h.mod
theorem SW.keep {w' : World} (h : SW w0 w p tp W F n B M R d c) (hm : Mod (fun _ => False) w w') : SW w0 w' p tp W F n B M R d c := by
  obtain ⟨bs, h1, h2, h⟩ := h.ex; exact ⟨bs, h1, h2, h.keep hm⟩
theorem SW.ptr (h : SW w0 w p tp W F n B M R d c) : w.cell? ⟨p, 0, none⟩ = some (.pointer (some ⟨tp, 0, none⟩)) := by
  obtain ⟨_, _, _, h⟩ := h.ex; exact h.ptr
theorem SW.nW (h : SW w0 w p tp W F n B M R d c) : n ≤ W ∧ W ≤ 16 := by
  obtain ⟨_, h1, _, h⟩ := h.ex; have := h.w16; omega
theorem SW.new (h : S1 (fun _ => False) w0 w p tp W 0 false B M R [] []) : SW w0 w p tp W 0 0 B M R d c := ⟨[], rfl, fun _ h => (by cases h), h⟩
theorem sw_len (h : SW w0 w p tp W F n B M R d c) : Calls Try.prog 25 #[.pointer (some ⟨tp, 0, none⟩)] w fun e w' => e = .returned (.int .i64 (n : Int)) ∧ w = w' := by
  obtain ⟨_, _, _, h⟩ := h.ex
  have := s1_len h
  rwa [LL_len] at this
theorem sw_acked (h : SW w0 w p tp W F n B M R d c) (hF : F ≤ 1000000) (k : Nat) (h0 : 0 < k) (hk : k ≤ n) (q : Int) (hq : q = ((F + k : Nat) : Int)) : Calls Try.prog 15 #[.pointer (some ⟨p, 0, none⟩), .int .i64 q] w fun e w' => e = .returned (.int .i64 (k : Int)) ∧ SW w0 w' p tp W (F + k) (n - k) B M R d c := by
  obtain ⟨bs, h1, h2, h⟩ := h.ex
  refine (s1_acked h (by omega) k h0 (by omega) q hq).mono ?_
  rintro e w' ⟨he, hs, _⟩
  rw [LL_stop F n d c k hk] at hs
  exact ⟨he, bs.drop k, by rw [List.length_drop, h1], fun x hx => h2 x (List.mem_of_mem_drop hx), hs⟩
theorem sw_acked_no (h : SW w0 w p tp W F n B M R d c) (hF : F ≤ 1000000) (q : Int) (hq : q ≤ (F : Int) ∨ ((F + n : Nat) : Int) < q) : Calls Try.prog 15 #[.pointer (some ⟨p, 0, none⟩), .int .i64 q] w fun e w' => e = .returned (.int .i64 0) ∧ SW w0 w' p tp W F n B M R d c := by
  obtain ⟨bs, h1, h2, h⟩ := h.ex
  refine (s1_acked_no h (by omega) q (by rw [h1]; exact hq)).mono ?_
  rintro e w' ⟨he, hs⟩
  exact ⟨he, bs, h1, h2, hs⟩
theorem sw_room (h : SW w0 w p tp W F n B M R d c) (r : Int) (hr : ((W - n : Nat) : Int) = r) : Calls Try.prog 22 #[.pointer (some ⟨p, 0, none⟩)] w fun e w' => e = .returned (.int .i64 r) ∧ SW w0 w' p tp W F n B M R d c := by
  obtain ⟨bs, h1, h2, h⟩ := h.ex
  refine (s1_room h r (by rw [h1]; simpa using hr)).mono ?_
  rintro e w' ⟨he, hs, _⟩
  exact ⟨he, bs, h1, h2, hs⟩
theorem sw_seq (h : SW w0 w p tp W F n B M R d c) (hF : F ≤ 1000000) (r : Int) (hr : ((F + n : Nat) : Int) = r) : Calls Try.prog 24 #[.pointer (some ⟨p, 0, none⟩)] w fun e w' => e = .returned (.int .i64 r) ∧ SW w0 w' p tp W F n B M R d c := by
  obtain ⟨bs, h1, h2, h⟩ := h.ex
  refine (s1_seq h (by omega) r (by rw [h1]; exact hr)).mono ?_
  rintro e w' ⟨he, hs, _⟩
  exact ⟨he, bs, h1, h2, hs⟩
theorem sw_body_no (h : SW w0 w p tp W F n B M R d c) (hF : F ≤ 1000000) (q : Int) (hq : q < (F : Int) ∨ ((F + n : Nat) : Int) ≤ q) : Calls Try.prog 20 #[.pointer (some ⟨p, 0, none⟩), .int .i64 q] w fun e w' => e = .returned (.tuple #[.slice none 0 0, .bool false]) ∧ SW w0 w' p tp W F n B M R d c := by
  obtain ⟨bs, h1, h2, h⟩ := h.ex
  refine (s1_body_no h (by omega) q (by rw [h1]; exact hq)).mono ?_
  rintro e w' ⟨he, hs, _⟩
  exact ⟨he, bs, h1, h2, hs⟩
theorem sw_body_at (h : SW w0 w p tp W F n B M R d c) (hF : F ≤ 1000000) (q : Int) (hq : (F : Int) ≤ q ∧ q < ((F + n : Nat) : Int)) : Calls Try.prog 20 #[.pointer (some ⟨p, 0, none⟩), .int .i64 q] w fun e w' => ∃ a' n' c', e = .returned (.tuple #[.slice a' n' c', .bool true]) ∧ SW w0 w' p tp W F n B M R d c := by
  obtain ⟨bs, h1, h2, h⟩ := h.ex
  have hk : (q - (F : Int)).toNat < bs.length := by omega
  refine (s1_body_at h (by omega) (q - (F : Int)).toNat _ (List.getElem?_eq_getElem hk) (h2 _ (List.getElem_mem hk)) q (by omega)).mono ?_
  rintro e w' ⟨a', c', he, _, _, hs, _⟩
  exact ⟨a', _, c', he, bs, h1, h2, hs⟩
/-- Send of a literal: what was sent is there. -/
theorem sw_send {V : World} (h : SW w0 w p tp W F n B M R d c) (hV : Mod (fun _ => False) w V) (hn : n < W) (hF : F ≤ 1000000) (hc : c = 0) (now : Int) (hnow : 0 ≤ now ∧ now ≤ 1048576) (hd : now + (B : Int) = d) (xs : List Int) (x : Nat) (hxn : xs.length = x) (bv : Value) (hrd : Rd V 1 bv x (xs.map (Value.int .u8))) (hxl : x ≤ 1000) (s : Int) (hs : s = ((F + n : Nat) : Int)) :
    Calls Try.prog 13 #[.pointer (some ⟨p, 0, none⟩), .int .i64 now, bv] V fun e w' => e = .returned (.tuple #[.int .i64 s, .int .i64 0]) ∧ (∀ w2, (Mod (fun k => w.heap.size ≤ k ∧ k < V.heap.size) w' w2) → ∃ bs : List (List Int), bs.length = n ∧ (∀ x ∈ bs, x.length ≤ 1000) ∧ S1 (fun _ => False) w0 w2 p tp W F false B M R (LL F (n + 1) d c) (bs ++ [xs])) ∧ Mod (fun k => k < w.heap.size) V w' := by
  obtain ⟨bs, h1, h2, h⟩ := h.ex
  subst h1 hc hd hs
  refine (s1_send h hV hn (by omega) (by rw [LL_len]; have := h.w16; omega) now hnow xs x hxn bv hrd hxl _ rfl).mono ?_
  rintro e w' ⟨he, hk, hm⟩
  refine ⟨he, fun w2 hm2 => ⟨bs, rfl, h2, ?_⟩, hm.mono (fun i _ e => e.1)⟩
  have := hk w2 hm2
  rwa [LL_put] at this
theorem sw_full {V : World} (h : SW w0 w p tp W F n B M R d c) (hV : Mod (fun _ => False) w V) (hn : n = W) (now : Int) (v : Value) : Calls Try.prog 13 #[.pointer (some ⟨p, 0, none⟩), .int .i64 now, v] V fun e w' => e = .returned (.tuple #[.int .i64 0, .int .i64 5]) ∧ (∀ w2, (Mod (fun k => w.heap.size ≤ k ∧ k < V.heap.size) w' w2) → SW w0 w2 p tp W F n B M R d c) ∧ Mod (fun _ => False) V w' := by
  obtain ⟨bs, h1, h2, h⟩ := h.ex
  refine (s1_full h hV (by omega) now v).mono ?_
  rintro e w' ⟨he, hk, hm⟩
  exact ⟨he, fun w2 hm2 => ⟨bs, h1, h2, hk w2 hm2⟩, hm⟩
theorem SW.of {bs : List (List Int)} {xs : List Int} (h1 : bs.length = n) (h2 : ∀ x ∈ bs, x.length ≤ 1000) (hx : xs.length ≤ 1000) (h : S1 (fun _ => False) w0 w p tp W F false B M R (LL F (n + 1) d c) (bs ++ [xs])) : SW w0 w p tp W F (n + 1) B M R d c :=
  ⟨bs ++ [xs], by rw [List.length_append, h1]; rfl, fun x hm => by
    rcases List.mem_append.1 hm with hm | hm
    · exact h2 x hm
    · rw [List.mem_singleton] at hm; rw [hm]; exact hx, h⟩
end
end Go.Proofs.Ytopldodfkcgmhaa
