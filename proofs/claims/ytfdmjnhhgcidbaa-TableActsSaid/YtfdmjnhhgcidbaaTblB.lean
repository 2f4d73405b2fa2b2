/- Law 29's two sides together: the code's Table, the reference's Server. -/
import Derived.Test.YtfdmjnhhgcidbaaTbL
import Derived.Test.YtfdmjnhhgcidbaaKSv
namespace Go.Proofs.Ytfdmjnhhgcidbaa
open Go.RowKit Mile
set_option maxRecDepth 100000
theorem tblk_mem {w : World} {b : Nat} {T : TypeId} {xs : List Value} (h : Blk w b T xs) {o : Nat} {v : Value} (hc : w.cell? ⟨b, o, none⟩ = some v) : v ∈ xs := by
  unfold Blk at h
  have h2 : xs[o]? = some v := by simpa [World.cell?, h] using hc
  exact List.mem_of_getElem? h2
theorem tbV_some {e : TbE} {x : Addr} (h : Value.pointer (some x) = tbV e) : ∃ y, e = some y ∧ x = ⟨y.1, 0, none⟩ := by
  cases e with
  | none => cases h
  | some y => cases h; exact ⟨y, rfl, rfl⟩
theorem tbC_ptr {M : Nat} {es : Nat → TbE} {gr : Nat → Int} {x : Addr} (h : Value.pointer (some x) ∈ tbC M es gr) : ∃ i y, i < 16 ∧ es i = some y ∧ x = ⟨y.1, 0, none⟩ := by
  simp only [tbC, row16, List.cons_append, List.nil_append, List.mem_cons, List.not_mem_nil, or_false, reduceCtorEq, false_or] at h
  rcases h with h | h | h | h | h | h | h | h | h | h | h | h | h | h | h | h
  all_goals (obtain ⟨y, h1, h2⟩ := tbV_some h; exact ⟨_, y, by decide, h1, h2⟩)
/-- The reference's row does not lie in the Table. -/
theorem row_ne {w : World} {p q M n c : Nat} {es : Nat → TbE} {gr gr' : Nat → Int} {a : Option Addr} {L : List SE} (ht : TB w p M es gr) (hs : SV w q M a n c gr' L) : ∀ k, (Value.slice a n c).ownBlock = some k → k = p → n = 0 := by
  intro k hk e
  subst e
  by_cases h0 : 0 < n
  · exfalso
    have hj : 0 < L.length := by rw [hs.len]; exact h0
    obtain ⟨b, o, hp, hc, _⟩ := hs.at_ 0 hj
    obtain ⟨b', o', hp', hk'⟩ := hs.rd.place (j := 0) h0
    rw [hp] at hp'
    cases hp'
    rw [hk] at hk'
    cases hk'
    obtain ⟨i, y, hi, hy, he⟩ := tbC_ptr (tblk_mem ht.blk hc)
    have hb := (hs.ents _ (List.getElem_mem hj)).e
    have h2 := (ht.ent i hi y.1 y.2 (by rw [hy])).1
    have h3 : L[0].eb = y.1 := by simpa using congrArg Addr.block he
    exact blk_ne hb h2 (by decide) h3
  · omega
/-- Both stand: who is in the Table, what is its memory of numbers; the reference's memory, its list. -/
structure BS (w0 w : World) (p q M : Nat) (es : Nat → TbE) (gr gr2 : Nat → Int) (L : List SE) : Prop where
  ts : TS w0 w p M es gr
  sv : ∃ a n c, SV w q M a n c gr2 L
  lq : w0.heap.size ≤ q
/-- A variable of the law's stays. -/
def Gst (w w' : World) (g : Nat) : Prop := ∀ cs, Blk w g 87 cs → Blk w' g 87 cs
theorem Gst.still {w w' : World} {g : Nat} (hm : Mod (fun _ => False) w w') : Gst w w' g := fun _ h => h.keep hm (fun e => e)
section
variable {w0 w w' : World} {p q M : Nat} {es es' : Nat → TbE} {gr gr' gr2 : Nat → Int} {L L' : List SE}
theorem BS.later (h : BS w0 w p q M es gr gr2 L) (hm : Mod (fun _ => False) w w') : BS w0 w' p q M es gr gr2 L :=
  ⟨h.ts.later hm, by obtain ⟨a, n, c, hs⟩ := h.sv; exact ⟨a, n, c, hs.later hm⟩, h.lq⟩
theorem BS.turnP (h : BS w0 w p q M es gr gr2 L) (ht : TB w' p M es' gr') (hm : Mod (fun k => k = p) w w') (g : Nat) : BS w0 w' p q M es' gr' gr2 L ∧ Gst w w' g := by
  refine ⟨⟨h.ts.turn ht hm, ?_, h.lq⟩, fun cs hg => hg.keep hm (fun e => blk_ne hg h.ts.tb.blk (by decide) e)⟩
  obtain ⟨a, n, c, hs⟩ := h.sv
  obtain ⟨_, _, _, _, hb⟩ := hs.blk
  exact ⟨a, n, c, hs.keep hm (fun e => blk_ne hb h.ts.tb.blk (by decide) e) (row_ne h.ts.tb hs) (fun x hx => ⟨fun e => blk_ne (hs.ents x hx).e h.ts.tb.blk (by decide) e, fun e => blk_ne (hs.ents x hx).c h.ts.tb.blk (by decide) e⟩)⟩
theorem BS.turnQ {a : Option Addr} {n c : Nat} (h : BS w0 w p q M es gr gr2 L) (ht : SV w' q M a n c gr' L') (hm : Mod (fun k => k = q) w w') (g : Nat) : BS w0 w' p q M es gr gr' L' ∧ Gst w w' g := by
  obtain ⟨a1, n1, c1, hs⟩ := h.sv
  obtain ⟨_, _, _, _, hb⟩ := hs.blk
  exact ⟨⟨⟨h.ts.tb.beside hb (by decide) (by decide) hm, h.ts.lp, h.ts.md.old hm (fun k hk => by rw [hk]; exact h.lq)⟩, ⟨a, n, c, ht⟩, h.lq⟩, fun cs hg => hg.keep hm (fun e => blk_ne hg hb (by decide) e)⟩
theorem BS.n16 (hL : SvR es gr L) : L.length ≤ 16 := by rw [hL.len]; exact liveN_len es 16
variable (g : Nat)
theorem bs_may1 (h : BS w0 w p q M es gr gr L) (hL : SvR es gr L) (pr cn r : Int) (hr : mayC M es gr pr cn = r) : Calls Try.prog 32 #[.pointer (some ⟨q, 0, none⟩), .int .i64 pr, .int .i64 cn] w fun e w' => e = .returned (.int .i64 r) ∧ BS w0 w' p q M es gr gr L ∧ Gst w w' g := by
  subst hr
  obtain ⟨a, n, c, hs⟩ := h.sv
  refine (svmay_any hs hL pr cn).mono ?_
  rintro e w' ⟨he, hm⟩
  exact ⟨he, h.later hm, Gst.still hm⟩
theorem bs_may2 (h : BS w0 w p q M es gr gr2 L) (pr cn r : Int) (hr : mayC M es gr pr cn = r) : Calls Try.prog 33 #[.pointer (some ⟨p, 0, none⟩), .int .i64 pr, .int .i64 cn] w fun e w' => e = .returned (.int .i64 r) ∧ BS w0 w' p q M es gr gr2 L ∧ Gst w w' g := by
  refine (ts_may h.ts pr cn r hr).mono ?_
  rintro e w' ⟨he, _, hm⟩
  exact ⟨he, h.later hm, Gst.still hm⟩
theorem bs_entry (h : BS w0 w p q M es gr gr2 L) (pr cn : Int) : Calls Try.prog 35 #[.int .i64 pr, .int .i64 cn] w fun e w' => ∃ b ch, e = .returned (.pointer (some ⟨b, 0, none⟩)) ∧ Blk w' b 98 [.int .i64 pr, .int .i64 cn, ch, .pointer none, .int .i64 0] ∧ b ≠ p ∧ BS w0 w' p q M es gr gr2 L ∧ Gst w w' g := by
  refine (ts_entry h.ts pr cn).mono ?_
  rintro e w' ⟨b, ch, he, hb, hp, _, hm⟩
  exact ⟨b, ch, he, hb, hp, h.later hm, Gst.still hm⟩
theorem bs_add (h : BS w0 w p q M es gr gr2 L) (b i : Nat) (hi : i < 16) (pr cn : Int) (hpr : pr = (i : Int)) (ch : Value) (hb : Blk w b 98 [.int .i64 pr, .int .i64 cn, ch, .pointer none, .int .i64 0]) (hbp : b ≠ p) (r : Int) (hr : mayC M es gr pr cn = r) (hr0 : r = 0) : Calls Try.prog 34 #[.pointer (some ⟨p, 0, none⟩), .pointer (some ⟨b, 0, none⟩)] w fun e w' => e = .returned (.int .i64 r) ∧ BS w0 w' p q M (updT es i (some (b, ch))) (updT gr i cn) gr2 L ∧ Gst w w' g := by
  subst hpr
  rw [hr0] at hr
  rw [hr0]
  refine (tbadd_ok h.ts.tb b i hi cn ch hb hbp hr).mono ?_
  rintro e w' ⟨he, ht, hm⟩
  exact ⟨he, h.turnP ht hm g⟩
theorem bs_addno (h : BS w0 w p q M es gr gr2 L) (b : Nat) (pr cn : Int) (ch : Value) (hb : Blk w b 98 [.int .i64 pr, .int .i64 cn, ch, .pointer none, .int .i64 0]) (r : Int) (hr : mayC M es gr pr cn = r) (hr0 : r ≠ 0) : Calls Try.prog 34 #[.pointer (some ⟨p, 0, none⟩), .pointer (some ⟨b, 0, none⟩)] w fun e w' => e = .returned (.int .i64 r) ∧ BS w0 w' p q M es gr gr2 L ∧ Gst w w' g := by
  refine (ts_addno h.ts b pr cn ch hb r hr hr0).mono ?_
  rintro e w' ⟨he, _, hm⟩
  exact ⟨he, h.later hm, Gst.still hm⟩
theorem bs_put (h : BS w0 w p q M es' gr' gr L) (hL : SvR es gr L) (i : Nat) (hi : i < 16) (pr cn : Int) (hpr : pr = (i : Int)) (hc : 1 ≤ cn ∧ cn ≤ 2147483648) (y : Nat × Value) : Calls Try.prog 36 #[.pointer (some ⟨q, 0, none⟩), .int .i64 pr, .int .i64 cn] w fun e w' => e = .returned (.tuple #[]) ∧ ∃ L', BS w0 w' p q M es' gr' (updT gr i cn) L' ∧ SvR (updT es i (some y)) (updT gr i cn) L' ∧ Gst w w' g := by
  subst hpr
  obtain ⟨a, n, c, hs⟩ := h.sv
  refine (svput_any w q M a n c gr L es hs hL (by rw [← hs.len]; exact BS.n16 hL) i hi cn hc y).mono ?_
  rintro e w' ⟨he, a', n', c', L', hs', hr', hm⟩
  obtain ⟨h1, h2⟩ := h.turnQ hs' hm g
  exact ⟨he, L', h1, hr', h2⟩
theorem bs_is (h : BS w0 w p q M es' gr' gr L) (hL : SvR es gr L) (pr : Int) (r : Bool) (hr : r = true ↔ ∃ i : Nat, i < 16 ∧ pr = (i : Int) ∧ (es i).isSome = true) : Calls Try.prog 37 #[.pointer (some ⟨q, 0, none⟩), .int .i64 pr] w fun e w' => e = .returned (.bool r) ∧ w = w' := by
  obtain ⟨a, n, c, hs⟩ := h.sv
  refine svis_any hs (by rw [← hs.len]; exact BS.n16 hL) pr r (hr.trans ⟨?_, ?_⟩)
  · rintro ⟨i, hi, rfl, he⟩
    obtain ⟨x, hx, hxp⟩ := (hL.mem hi).1 he
    exact ⟨x, hx, by rw [hxp]⟩
  · rintro ⟨x, hx, hxp⟩
    exact ⟨x.peer, hL.lt hx, hxp.symm, (hL.mem (hL.lt hx)).2 ⟨x, hx, rfl⟩⟩
theorem gone_one {i : Nat} (hi : i < 16) {y : Nat × Value} (he : es i = some y) : goneN (lvF es [(i : Int)] 1) 16 = [i] := by
  unfold goneN
  refine rise_eq (List.Pairwise.filter _ List.pairwise_lt_range) (List.pairwise_singleton _ _) fun x => ?_
  rw [List.mem_filter, List.mem_range, List.mem_singleton]
  unfold lvF
  constructor
  · rintro ⟨_, h⟩
    rw [Bool.and_eq_true] at h
    have h2 := of_decide_eq_true h.2
    rw [List.take_of_length_le (by simp), List.mem_singleton] at h2
    omega
  · rintro rfl
    exact ⟨hi, by simp [he]⟩
theorem gone_none {pr : Int} (h : ∀ i : Nat, i < 16 → pr = (i : Int) → es i = none) : goneN (lvF es [pr] 1) 16 = [] := by
  unfold goneN
  rw [List.filter_eq_nil_iff]
  intro x hx
  have hx16 := List.mem_range.1 hx
  unfold lvF
  by_cases e : pr = (x : Int)
  · simp [h x hx16 e]
  · have : ¬ (x : Int) = pr := fun h => e h.symm
    simp [this]
/-- Drop of one who is there. -/
theorem bs_drop1 (h : BS w0 w p q M es gr gr2 L) (pr : Int) (i : Nat) (hi : i < 16) (hpr : pr = (i : Int)) (b : Nat) (ch : Value) (he : es i = some (b, ch)) (a : Option Addr) (c : Nat) (hr : Rd w 1 (.slice a 1 c) 1 [.int .i64 pr]) : Calls Try.prog 38 #[.pointer (some ⟨p, 0, none⟩), .slice a 1 c] w fun e w' => ∃ xa xc xb xo, e = .returned (.slice xa 1 xc) ∧ elemA xa 0 1 = ⟨xb, xo, none⟩ ∧ xa ≠ none ∧ w'.cell? ⟨xb, xo, none⟩ = some (.pointer (some ⟨b, 0, none⟩)) ∧ w'.cell? ⟨b, 0, none⟩ = some (.int .i64 pr) ∧ BS w0 w' p q M (dropE es [pr]) gr gr2 L ∧ Gst w w' g := by
  have hd := tbdrop_any h.ts.tb a 1 c [pr] rfl (by simpa using hr) (by omega)
  refine hd.mono ?_
  rintro e w' ⟨xa, xc, he', ho, ht, hm⟩
  subst hpr
  rw [show (goneN (lvF es [(i : Int)] [(i : Int)].length) 16) = [i] from gone_one hi he] at he' ho
  have hrd : Rd w' 1 (.slice xa 1 xc) 1 [.pointer (some ⟨b, 0, none⟩)] := by
    have := Rd.ofOwn ho
    simpa [he, tbV] using this
  obtain ⟨xb, xo, hp, _⟩ := hrd.place (j := 0) (by omega)
  have hc := hrd.elem (j := 0) (u := .pointer (some ⟨b, 0, none⟩)) rfl
  rw [hp] at hc
  obtain ⟨h1, h2⟩ := h.turnP ht hm g
  obtain ⟨hb1, hb2⟩ := h.ts.tb.ent i hi b ch he
  exact ⟨xa, xc, xb, xo, he', hp, hrd.some_ (by omega), hc, (hb1.keep hm hb2).cell 0 rfl, h1, h2⟩
theorem bs_drop0 (h : BS w0 w p q M es gr gr2 L) (pr : Int) (he : ∀ i : Nat, i < 16 → pr = (i : Int) → es i = none) (a : Option Addr) (c : Nat) (hr : Rd w 1 (.slice a 1 c) 1 [.int .i64 pr]) : Calls Try.prog 38 #[.pointer (some ⟨p, 0, none⟩), .slice a 1 c] w fun e w' => ∃ xa xc, e = .returned (.slice xa 0 xc) ∧ BS w0 w' p q M (dropE es [pr]) gr gr2 L ∧ Gst w w' g := by
  have hd := tbdrop_any h.ts.tb a 1 c [pr] rfl (by simpa using hr) (by omega)
  refine hd.mono ?_
  rintro e w' ⟨xa, xc, he', ho, ht, hm⟩
  rw [show (goneN (lvF es [pr] [pr].length) 16) = [] from gone_none he] at he'
  exact ⟨xa, xc, he', h.turnP ht hm g⟩
theorem bs_out (h : BS w0 w p q M es' gr' gr L) (hL : SvR es gr L) (pr : Int) : Calls Try.prog 39 #[.pointer (some ⟨q, 0, none⟩), .int .i64 pr] w fun e w' => e = .returned (.tuple #[]) ∧ BS w0 w' p q M es' gr' gr (dropS L pr) ∧ Gst w w' g := by
  obtain ⟨a, n, c, hs⟩ := h.sv
  refine (svout_any hs (by rw [← hs.len]; exact BS.n16 hL) pr).mono ?_
  rintro e w' ⟨he, a', n', c', hs', hm⟩
  exact ⟨he, h.turnQ hs' hm g⟩
end
section
variable {w0 w : World} {p q M : Nat} {es : Nat → TbE} {gr gr2 : Nat → Int} {L : List SE}
/-- Get, of both sides: none, or one. -/
theorem bs_get (h : BS w0 w p q M es gr gr L) (hL : SvR es gr L) (pr cn : Int) :
    (Calls Try.prog 40 #[.pointer (some ⟨p, 0, none⟩), .int .i64 pr, .int .i64 cn] w (fun e w' => e = .returned (.pointer none) ∧ w = w') ∧ Calls Try.prog 41 #[.pointer (some ⟨q, 0, none⟩), .int .i64 pr, .int .i64 cn] w (fun e w' => e = .returned (.pointer none) ∧ w = w'))
    ∨ ∃ b eb, Calls Try.prog 40 #[.pointer (some ⟨p, 0, none⟩), .int .i64 pr, .int .i64 cn] w (fun e w' => e = .returned (.pointer (some ⟨b, 0, none⟩)) ∧ w = w') ∧ Calls Try.prog 41 #[.pointer (some ⟨q, 0, none⟩), .int .i64 pr, .int .i64 cn] w (fun e w' => e = .returned (.pointer (some ⟨eb, 0, none⟩)) ∧ w = w') ∧ w.cell? ⟨b, 0, none⟩ = some (.int .i64 pr) ∧ w.cell? ⟨b, 1, none⟩ = some (.int .i64 cn) := by
  obtain ⟨a, n, c, hs⟩ := h.sv
  have hn16 : n ≤ 16 := by rw [← hs.len]; exact BS.n16 hL
  have h1 := tbget_any h.ts.tb pr cn
  by_cases hx : ∃ i : Nat, i < 16 ∧ pr = (i : Int) ∧ gr i = cn ∧ (es i).isSome = true
  · right
    obtain ⟨i, hi, rfl, hg, he⟩ := hx
    obtain ⟨x, hx, hxp⟩ := (hL.mem hi).1 he
    obtain ⟨⟨b, ch⟩, hy⟩ := Option.isSome_iff_exists.1 he
    have hxc : x.conn = cn := by rw [hL.cs x hx, hxp, hg]
    have hgv : getV es gr (i : Int) cn = .pointer (some ⟨b, 0, none⟩) := by
      unfold getV
      rw [if_pos ⟨by omega, by omega, by simpa using hg⟩, Int.toNat_natCast, hy]
      rfl
    rw [hgv] at h1
    have hb := (h.ts.tb.ent i hi b ch hy).1
    rw [hg] at hb
    refine ⟨b, x.eb, h1, svget_any hs hn16 _ _ _ (fun ha => absurd ⟨by rw [hxp], hxc⟩ (ha x hx)) (fun z hz ⟨z1, _⟩ => ?_), hb.cell 0 rfl, hb.cell 1 rfl⟩
    have hzx : z = x := by
      have hzp : z.peer = x.peer := by omega
      have hr := hL.rise
      rw [List.pairwise_map] at hr
      obtain ⟨s, hs1, hs2⟩ := List.getElem_of_mem hz
      obtain ⟨t, ht1, ht2⟩ := List.getElem_of_mem hx
      rw [List.pairwise_iff_getElem] at hr
      rcases Nat.lt_trichotomy s t with e | e | e
      · have := hr s t hs1 ht1 e; rw [hs2, ht2] at this; omega
      · subst e; rw [← hs2, ← ht2]
      · have := hr t s ht1 hs1 e; rw [hs2, ht2] at this; omega
    rw [hzx]
  · left
    have hgv : getV es gr pr cn = .pointer none := by
      unfold getV
      split
      · next hc =>
        obtain ⟨c1, c2, c3⟩ := hc
        cases he : es pr.toNat with
        | none => rfl
        | some y => exact absurd ⟨pr.toNat, by omega, by omega, c3, by rw [he]; rfl⟩ hx
      · rfl
    rw [hgv] at h1
    refine ⟨h1, svget_any hs hn16 _ _ _ (fun _ => rfl) (fun z hz ⟨z1, z2⟩ => absurd ⟨z.peer, hL.lt hz, z1.symm, by rw [← hL.cs z hz]; exact z2, (hL.mem (hL.lt hz)).2 ⟨z, hz, rfl⟩⟩ hx)⟩
def AllP (es : Nat → TbE) (n : Nat) : Value → World → Prop := fun v W => ∃ a c, v = .slice a n c ∧ Rd W 1 (.slice a n c) n ((liveN es 16).map fun i => tbV (es i))
theorem AllP.st (es : Nat → TbE) (n : Nat) : Stable (Mod (fun _ => False)) (AllP es n) := fun _ _ _ ⟨a, c, h, hr⟩ hm => ⟨a, c, h, hr.keep hm (fun _ _ e => e)⟩
def NumP (xs : List Int) (n : Nat) : Value → World → Prop := fun v W => ∃ a c, v = .slice a n c ∧ Rd W 1 (.slice a n c) n (xs.map (Value.int .i64))
theorem NumP.st (xs : List Int) (n : Nat) : Stable (Mod (fun _ => False)) (NumP xs n) := fun _ _ _ ⟨a, c, h, hr⟩ hm => ⟨a, c, h, hr.keep hm (fun _ _ e => e)⟩
theorem Ev.ts (h : TS w0 w p M es gr) : Ev (fun W => TS w0 W p M es gr) w := fun _ m => h.later m
theorem bs_len (h : TS w0 w p M es gr) (n : Nat) (hn : (liveN es 16).length = n) : Calls Try.prog 42 #[.pointer (some ⟨p, 0, none⟩)] w fun e w' => e = .returned (.int .i64 (n : Int)) ∧ Mod (fun _ => False) w w' := by
  subst hn
  exact tblen_any h.tb
theorem bs_all (h : TS w0 w p M es gr) (n : Nat) (hn : (liveN es 16).length = n) : Calls Try.prog 45 #[.pointer (some ⟨p, 0, none⟩)] w fun e w' => ∃ v, e = .returned v ∧ AllP es n v w' ∧ Mod (fun _ => False) w w' := by
  subst hn
  refine (tball_any h.tb).mono ?_
  rintro e w' ⟨a, c, he, ho, hm⟩
  exact ⟨_, he, ⟨a, c, rfl, Rd.ofOwn ho⟩, hm⟩
theorem bs_peers (h : TS w0 w p M es gr) (a : Option Addr) (n c : Nat) (hn : (liveN es 16).length = n) (hr : Rd w 1 (.slice a n c) n ((liveN es 16).map fun i => tbV (es i))) : Calls Try.prog 44 #[.slice a n c] w fun e w' => ∃ v, e = .returned v ∧ NumP (liveI es) n v w' ∧ Mod (fun _ => False) w w' := by
  refine (ts_peers2 h a n c hn hr).mono ?_
  rintro e w' ⟨a', c', he, hr, _, _, hm⟩
  exact ⟨_, he, ⟨a', c', rfl, hr⟩, hm⟩
theorem bs_live {a : Option Addr} {n c : Nat} (hs : SV w q M a n c gr2 L) (hL : SvR es gr L) : Calls Try.prog 46 #[.pointer (some ⟨q, 0, none⟩)] w fun e w' => ∃ v, e = .returned v ∧ NumP (liveI es) n v w' ∧ Mod (fun _ => False) w w' := by
  have hl : (L.map fun x => (x.peer : Int)) = liveI es := by unfold liveI; rw [← hL.ps, List.map_map]; rfl
  refine (svlive_any hs (by rw [← hs.len]; exact BS.n16 hL)).mono ?_
  rintro e w' ⟨a', c', he, hr, hm⟩
  rw [hl] at hr
  exact ⟨_, he, ⟨a', c', rfl, hr⟩, hm⟩
end
theorem mayC_zero {M : Nat} {es : Nat → TbE} {gr : Nat → Int} {pr cn : Int} (h : mayC M es gr pr cn = 0) : ∃ i : Nat, i < 16 ∧ pr = (i : Int) ∧ 1 ≤ cn ∧ cn ≤ 2147483648 := by
  unfold mayC at h
  split at h
  · omega
  · exact ⟨pr.toNat, by omega, by omega, by omega, by omega⟩
/-- What the law's acts are. -/
abbrev ActT := Int × Int × Int × Unit
def encActT : Enc ActT := encPair (encInt .i64) (encPair (encInt .i64) (encPair (encInt .i64) encUnit))
theorem opens_actT : Opens Try.prog 87 encActT :=
  opens_struct Try.underlying87 (by kernel_rfl) (opens_cons rfl (by kernel_rfl) (opens_int Try.underlying3) (opens_cons rfl (by kernel_rfl) (opens_int Try.underlying3)
    (opens_cons rfl (by kernel_rfl) (opens_int Try.underlying3) (opens_nil _ _))))
theorem opens_actTs : Opens Try.prog 73 (encSlice encActT) := opens_slice Try.underlying73 (by kernel_rfl) opens_actT (by decide)
def cActT (x : ActT) : List Value := [.int .i64 x.1, .int .i64 x.2.1, .int .i64 x.2.2.1]
theorem cActT_eq (x : ActT) : encActT.img x = cActT x := rfl
theorem cActT_at : ∀ (L : List ActT) (i : Nat) (hi : i < L.length), (L.flatMap cActT)[i * 3 + 0]? = some (.int .i64 L[i].1) ∧ (L.flatMap cActT)[i * 3 + 1]? = some (.int .i64 L[i].2.1) ∧ (L.flatMap cActT)[i * 3 + 2]? = some (.int .i64 L[i].2.2.1)
  | [], i, hi => by simp at hi
  | x :: l, 0, hi => by simp [cActT]
  | x :: l, i + 1, hi => by
    have := cActT_at l i (by simpa using hi)
    rw [List.flatMap_cons, List.getElem?_append_right (by simp [cActT]; omega), List.getElem?_append_right (by simp [cActT]; omega), List.getElem?_append_right (by simp [cActT]; omega)]
    simp only [List.getElem_cons_succ]
    rw [show (i + 1) * 3 + 0 - (cActT x).length = i * 3 + 0 by simp [cActT]; omega, show (i + 1) * 3 + 1 - (cActT x).length = i * 3 + 1 by simp [cActT]; omega, show (i + 1) * 3 + 2 - (cActT x).length = i * 3 + 2 by simp [cActT]; omega]
    exact this
theorem rdActT {w : World} {n c : Nat} {a : Option Addr} {L : List ActT} (h : Rd w 3 (.slice a n c) n (L.flatMap cActT)) (hl : L.length = n) (i : Nat) (hi : i < L.length) :
    ∃ b o, elemA a i 3 = ⟨b, o, none⟩ ∧ w.cell? ⟨b, o, none⟩ = some (.int .i64 L[i].1) ∧ w.cell? ⟨b, o + 1, none⟩ = some (.int .i64 L[i].2.1) ∧ w.cell? ⟨b, o + 2, none⟩ = some (.int .i64 L[i].2.2.1) := by
  obtain ⟨b, o, hp, _⟩ := h.place (j := i) (by omega)
  have hg := cActT_at L i hi
  exact ⟨b, o, hp, by have := h.elemN hp 0 hg.1; simpa using this, h.elemN hp 1 hg.2.1, h.elemN hp 2 hg.2.2⟩
end Go.Proofs.Ytfdmjnhhgcidbaa
