/- Law ShutsActs: its acts as data; what both Shuts are behind an act. -/
import Derived.Test.YthlpednakhjmhaaRSh2
import Derived.Test.YthlpednakhjmhaaSame10
import Derived.Test.YthlpednakhjmhaaRegion8
import Derived.Test.YthlpednakhjmhaaEvF
import Derived.Test.YthlpednakhjmhaaOpens
namespace Go.Proofs.Ythlpednakhjmhaa
open Go.RowKit Mile
set_option maxRecDepth 100000
abbrev ActD := Int × Int × (Value × List Int) × Unit
def encAct : Enc ActD := encPair (encInt .i64) (encPair (encInt .i64) (encPair (encSlice (encInt .i64)) encUnit))
theorem opens_act : Opens Try.prog 30 encAct :=
  opens_struct Try.underlying30 (by kernel_rfl) (opens_cons rfl (by kernel_rfl) (opens_int Try.underlying3) (opens_cons rfl (by kernel_rfl) (opens_int Try.underlying3)
    (opens_cons rfl (by kernel_rfl) (opens_slice Try.underlying28 (by kernel_rfl) (opens_int Try.underlying3) (by decide)) (opens_nil _ _))))
theorem opens_acts : Opens Try.prog 22 (encSlice encAct) := opens_slice Try.underlying22 (by kernel_rfl) opens_act (by decide)
theorem act_at (L : List ActD) (j : Nat) (h : j < L.length) (i : Nat) (hi : i < 3) : (L.flatMap encAct.img)[j * 3 + i]? = [Value.int .i64 L[j].1, Value.int .i64 L[j].2.1, L[j].2.2.1.1][i]? := by
  induction L generalizing j with
  | nil => simp at h
  | cons y r ih =>
    rw [List.flatMap_cons]
    have hy : encAct.img y = [Value.int .i64 y.1, Value.int .i64 y.2.1, y.2.2.1.1] := rfl
    cases j with
    | zero => rw [List.getElem?_append_left (by rw [hy]; simp; omega), hy]; simp
    | succ j =>
      have h' : j < r.length := by simpa using h
      rw [List.getElem?_append_right (by rw [hy]; simp; omega), hy]
      simp only [List.length_cons, List.length_nil, List.getElem_cons_succ]
      rw [show (j + 1) * 3 + i - (0 + 1 + 1 + 1) = j * 3 + i by omega]
      exact ih j h'
theorem ints_img (k : IntKind) (xs : List Int) : xs.flatMap (encInt k).img = xs.map (Value.int k) := by
  induction xs with
  | nil => rfl
  | cons x r ih => rw [List.flatMap_cons, ih]; rfl
/-- An act's row, as the walk wants it. -/
def ActOk (w : World) (x : ActD) : Prop := ∃ a c, x.2.2.1.1 = .slice a x.2.2.1.2.length c ∧ Rd w 1 (.slice a x.2.2.1.2.length c) x.2.2.1.2.length (x.2.2.1.2.map (Value.int .i64))
theorem ActOk.of {w : World} {x : ActD} (h : encAct.ok w x) : ActOk w x := by
  obtain ⟨_, _, ⟨h1, _⟩, _⟩ := h
  rw [ints_img] at h1
  obtain ⟨_, a, c, e, _⟩ := id h1
  exact ⟨a, c, e, by rw [← e]; exact h1⟩
theorem rd3a {w : World} {n c : Nat} {a : Option Addr} {S : List ActD} (h : Rd w 3 (.slice a n c) n (S.flatMap encAct.img)) (i : Nat) (hn : S.length = n) (hi : i < S.length) :
    ∃ b o, elemA a i 3 = ⟨b, o, none⟩ ∧ w.cell? ⟨b, o, none⟩ = some (.int .i64 S[i].1) ∧ w.cell? ⟨b, o + 1, none⟩ = some (.int .i64 S[i].2.1) ∧ w.cell? ⟨b, o + 2, none⟩ = some S[i].2.2.1.1 := by
  obtain ⟨b, o, hp, _⟩ := h.place (j := i) (by omega)
  refine ⟨b, o, hp, ?_, ?_, ?_⟩
  · have := h.elemN hp 0 (u := .int .i64 S[i].1) (by rw [act_at S i hi 0 (by omega)]; rfl); simpa using this
  · exact h.elemN hp 1 (by rw [act_at S i hi 1 (by omega)]; rfl)
  · exact h.elemN hp 2 (by rw [act_at S i hi 2 (by omega)]; rfl)
theorem infoAct : (Try.prog.info? 30).map (fun i => (i.zero, i.size, i.bytes)) = some (some (.agg #[.int .i64 0, .int .i64 0, .slice none 0 0]), 3, 40) := by kernel_rfl
/-- Both Shuts, behind an act. -/
def AcSt (p q g n : Nat) (w0 wx : World) : Prop := ∃ us, SO wx p n us ∧ UO wx q g n (us.take n) ∧ Mod (fun k => k = p ∨ k = g) w0 wx
def ShRow (L : List (Int × Int)) : Value → World → Prop := fun v W => ∃ a c, v = .slice a L.length c ∧ Rd W 2 (.slice a L.length c) L.length (L.flatMap c2s)
theorem ShRow.st (L : List (Int × Int)) : Stable (Mod (fun _ => False)) (ShRow L) := fun _ _ _ ⟨a, c, h, hr⟩ hm => ⟨a, c, h, hr.keep hm (fun _ _ e => e)⟩
theorem shrow_own {w : World} {base : Nat} {v : Value} {L : List (Int × Int)} (h : w.ownsRow base 53 2 v L.length (L.flatMap c2s)) : ShRow L v w := by
  obtain ⟨a, c, rfl⟩ := own_form h
  exact ⟨a, c, rfl, Rd.ofOwn h⟩
theorem allK_take (n : Nat) (us : List Int) : allK (us.take n) n = allK us n := by
  unfold allK
  have h1 : ∀ i ∈ List.range n, ((us.take n).getD i 0 != 0) = (us.getD i 0 != 0) := fun i hi => by rw [getD_take us n i (List.mem_range.1 hi)]
  rw [List.filter_congr h1]
  refine List.map_congr_left fun i hi => ?_
  rw [getD_take us n i (List.mem_range.1 (List.mem_filter.1 hi).1)]
theorem maskL_take (n : Nat) (us : List Int) : maskL (us.take n) n = maskL us n := by
  unfold maskL
  refine List.map_congr_left fun i hi => ?_
  rw [getD_take us n i (List.mem_range.1 hi)]
/-- A row of the call's own, far from p and g. -/
def OwnI (B0 : Nat) (zs : List Int) : Value → World → Prop := fun v W => ∃ a c, v = .slice a zs.length c ∧ W.ownsRow B0 3 1 (.slice a zs.length c) zs.length (zs.map (Value.int .i64))
theorem OwnI.of {w : World} {B0 base : Nat} {v : Value} {n : Nat} {zs : List Int} (h : w.ownsRow base 3 1 v n (zs.map (Value.int .i64))) (hn : zs.length = n) (hb : B0 ≤ base) : OwnI B0 zs v w := by
  subst hn
  obtain ⟨a, c, rfl⟩ := own_form h
  exact ⟨a, c, rfl, Own.rebase h (fun k hk => Nat.le_trans hb (h.lt k hk).1)⟩
theorem OwnI.keep {B0 : Nat} {zs : List Int} {v : Value} {w w' : World} {F : Nat → Prop} (h : OwnI B0 zs v w) (m : Mod F w w') (hF : ∀ k, B0 ≤ k → ¬ F k) : OwnI B0 zs v w' := by
  obtain ⟨a, c, e, o⟩ := h
  exact ⟨a, c, e, Own.keep o m (fun k hk => hF k (o.lt k hk).1)⟩
/-- Both Lapses in one statement, in whatever order: what is known while some have come up. -/
structure LapI (p q g n ba un B0 : Nat) (t : Int) (cs : List Value) (us us2 zs : List Int) (w0 : World) (L : Nat → Prop) (vs : Nat → Value) (w : World) : Prop where
  v0 : L 0 → vs 0 = .pointer (some ⟨p, 0, none⟩)
  v1 : L 1 → vs 1 = .pointer (some ⟨ba, 1, none⟩)
  v2 : L 2 → vs 2 = .int .i64 t
  v3 : L 3 → OwnI B0 zs (vs 3) w
  v4 : L 4 → vs 4 = .pointer (some ⟨q, 0, none⟩)
  v5 : L 5 → vs 5 = .pointer (some ⟨ba, 1, none⟩)
  v6 : L 6 → vs 6 = .int .i64 t
  v7 : L 7 → OwnI B0 zs (vs 7) w
  v8 : L 8 → vs 8 = .bool true
  v9 : L 9 → vs 9 = .bool false
  so : ¬ L 3 → SO w p n us
  so2 : L 3 → SO w p n us2
  uo : ¬ L 7 → UO w q g n (us.take n)
  uo2 : L 7 → UO w q g n (us2.take n)
  bl : Blk w ba 30 cs
  md : Mod (fun k => k = p ∨ k = g) w0 w
section
variable {p q g n ba un B0 : Nat} {t : Int} {cs : List Value} {us us2 zs : List Int} {w0 w w' : World} {L : Nat → Prop} {vs : Nat → Value} {v : Value}
/-- An operation that turns neither. -/
theorem LapI.val (h : LapI p q g n ba un B0 t cs us us2 zs w0 L vs w) (m : Mod (fun _ => False) w w') (i : Nat) (hv : match i with | 0 => v = .pointer (some ⟨p, 0, none⟩) | 1 => v = .pointer (some ⟨ba, 1, none⟩) | 2 => v = .int .i64 t | 4 => v = .pointer (some ⟨q, 0, none⟩) | 5 => v = .pointer (some ⟨ba, 1, none⟩) | 6 => v = .int .i64 t | 8 => v = .bool true | 9 => v = .bool false | _ => False) :
    LapI p q g n ba un B0 t cs us us2 zs w0 (fun j => L j ∨ j = i) (upd vs i v) w' := by
  have h3 : i ≠ 3 := by rintro rfl; exact hv
  have h7 : i ≠ 7 := by rintro rfl; exact hv
  have hne : ∀ j, j ≠ i → upd vs i v j = vs j := fun j hj => by simp only [upd, if_neg hj]
  have heq : upd vs i v i = v := by simp [upd]
  have hk : ∀ k, B0 ≤ k → ¬ (fun _ : Nat => False) k := fun _ _ e => e
  refine ⟨fun hl => ?_, fun hl => ?_, fun hl => ?_, fun hl => ?_, fun hl => ?_, fun hl => ?_, fun hl => ?_, fun hl => ?_, fun hl => ?_, fun hl => ?_, fun hl => (h.so (fun e => hl (.inl e))).keep m (fun e => e), fun hl => (h.so2 (hl.resolve_right (Ne.symm h3))).keep m (fun e => e), fun hl => (h.uo (fun e => hl (.inl e))).keep m (fun e => e) (fun e => e), fun hl => (h.uo2 (hl.resolve_right (Ne.symm h7))).keep m (fun e => e) (fun e => e), h.bl.keep m (fun e => e), h.md.trans m (fun _ _ e => e) (fun _ _ e => e.elim)⟩
  · by_cases e : i = 0
    · subst e; rw [heq]; exact hv
    · rw [hne 0 (Ne.symm e)]; exact h.v0 (hl.resolve_right (Ne.symm e))
  · by_cases e : i = 1
    · subst e; rw [heq]; exact hv
    · rw [hne 1 (Ne.symm e)]; exact h.v1 (hl.resolve_right (Ne.symm e))
  · by_cases e : i = 2
    · subst e; rw [heq]; exact hv
    · rw [hne 2 (Ne.symm e)]; exact h.v2 (hl.resolve_right (Ne.symm e))
  · rw [hne 3 (Ne.symm h3)]; exact (h.v3 (hl.resolve_right (Ne.symm h3))).keep m hk
  · by_cases e : i = 4
    · subst e; rw [heq]; exact hv
    · rw [hne 4 (Ne.symm e)]; exact h.v4 (hl.resolve_right (Ne.symm e))
  · by_cases e : i = 5
    · subst e; rw [heq]; exact hv
    · rw [hne 5 (Ne.symm e)]; exact h.v5 (hl.resolve_right (Ne.symm e))
  · by_cases e : i = 6
    · subst e; rw [heq]; exact hv
    · rw [hne 6 (Ne.symm e)]; exact h.v6 (hl.resolve_right (Ne.symm e))
  · rw [hne 7 (Ne.symm h7)]; exact (h.v7 (hl.resolve_right (Ne.symm h7))).keep m hk
  · by_cases e : i = 8
    · subst e; rw [heq]; exact hv
    · rw [hne 8 (Ne.symm e)]; exact h.v8 (hl.resolve_right (Ne.symm e))
  · by_cases e : i = 9
    · subst e; rw [heq]; exact hv
    · rw [hne 9 (Ne.symm e)]; exact h.v9 (hl.resolve_right (Ne.symm e))
theorem LapI.one (h : LapI p q g n ba un B0 t cs us us2 zs w0 L vs w) (m : Mod (fun k => k = p) w w') (hB : p < B0 ∧ g < B0) (ha : ¬ q = p ∧ ¬ g = p ∧ ¬ ba = p) (hv : OwnI B0 zs v w') (hs : SO w' p n us2) :
    LapI p q g n ba un B0 t cs us us2 zs w0 (fun j => L j ∨ j = 3) (upd vs 3 v) w' := by
  have hne : ∀ j, j ≠ 3 → upd vs 3 v j = vs j := fun j hj => by simp only [upd, if_neg hj]
  have hr : ∀ j, j ≠ 3 → L j ∨ j = 3 → L j := fun j hj hl => hl.resolve_right hj
  refine ⟨fun hl => by rw [hne 0 (by decide)]; exact h.v0 (hr 0 (by decide) hl), fun hl => by rw [hne 1 (by decide)]; exact h.v1 (hr 1 (by decide) hl), fun hl => by rw [hne 2 (by decide)]; exact h.v2 (hr 2 (by decide) hl), fun _ => by simpa [upd] using hv, fun hl => by rw [hne 4 (by decide)]; exact h.v4 (hr 4 (by decide) hl), fun hl => by rw [hne 5 (by decide)]; exact h.v5 (hr 5 (by decide) hl), fun hl => by rw [hne 6 (by decide)]; exact h.v6 (hr 6 (by decide) hl), fun hl => by rw [hne 7 (by decide)]; exact (h.v7 (hr 7 (by decide) hl)).keep m (fun k hk e => by have : k = p := e; omega), fun hl => by rw [hne 8 (by decide)]; exact h.v8 (hr 8 (by decide) hl), fun hl => by rw [hne 9 (by decide)]; exact h.v9 (hr 9 (by decide) hl), fun hl => absurd (.inr rfl) hl, fun _ => hs, fun hl => (h.uo (fun e => hl (.inl e))).keep m ha.1 ha.2.1, fun hl => (h.uo2 (hr 7 (by decide) hl)).keep m ha.1 ha.2.1, h.bl.keep m ha.2.2, h.md.trans m (fun _ _ e => e) (fun _ _ e => .inl e)⟩
theorem LapI.two (h : LapI p q g n ba un B0 t cs us us2 zs w0 L vs w) (m : Mod (fun k => k = g) w w') (hB : p < B0 ∧ g < B0) (ha : ¬ p = g ∧ ¬ ba = g) (hv : OwnI B0 zs v w') (hs : UO w' q g n (us2.take n)) :
    LapI p q g n ba un B0 t cs us us2 zs w0 (fun j => L j ∨ j = 7) (upd vs 7 v) w' := by
  have hne : ∀ j, j ≠ 7 → upd vs 7 v j = vs j := fun j hj => by simp only [upd, if_neg hj]
  have hr : ∀ j, j ≠ 7 → L j ∨ j = 7 → L j := fun j hj hl => hl.resolve_right hj
  refine ⟨fun hl => by rw [hne 0 (by decide)]; exact h.v0 (hr 0 (by decide) hl), fun hl => by rw [hne 1 (by decide)]; exact h.v1 (hr 1 (by decide) hl), fun hl => by rw [hne 2 (by decide)]; exact h.v2 (hr 2 (by decide) hl), fun hl => by rw [hne 3 (by decide)]; exact (h.v3 (hr 3 (by decide) hl)).keep m (fun k hk e => by have : k = g := e; omega), fun hl => by rw [hne 4 (by decide)]; exact h.v4 (hr 4 (by decide) hl), fun hl => by rw [hne 5 (by decide)]; exact h.v5 (hr 5 (by decide) hl), fun hl => by rw [hne 6 (by decide)]; exact h.v6 (hr 6 (by decide) hl), fun _ => by simpa [upd] using hv, fun hl => by rw [hne 8 (by decide)]; exact h.v8 (hr 8 (by decide) hl), fun hl => by rw [hne 9 (by decide)]; exact h.v9 (hr 9 (by decide) hl), fun hl => (h.so (fun e => hl (.inl e))).keep m ha.1, fun hl => (h.so2 (hr 3 (by decide) hl)).keep m ha.1, fun hl => absurd (.inr rfl) hl, fun _ => hs, h.bl.keep m ha.2, h.md.trans m (fun _ _ e => e) (fun _ _ e => .inr e)⟩
end
end Go.Proofs.Ythlpednakhjmhaa
