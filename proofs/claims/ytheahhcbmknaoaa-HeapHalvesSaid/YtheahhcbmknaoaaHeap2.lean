/- Package heap: rise and sink. -/
import Derived.Test.YtheahhcbmknaoaaHeap1
namespace Go.Proofs.Ytheahhcbmknaoaa
open Go.RowKit Mile

/-- What rise and sink leave: x stands among the others, all in order, each where the map says. -/
def Settled (p : Nat) (v : Value) (l : List It) (h : Nat) (x : It) (b : Nat) (F : Nat → Prop) (w w' : World) : Prop :=
  ∃ l' f', HRaw w' p v l' (some b) f' F ∧ l'.Perm (l.set h x) ∧ HOrd l' ∧ Full f' l' ∧ Mod F w w'

/-- The state within: x's place is free at h'. -/
structure HoleAt (w wr : World) (p : Nat) (v : Value) (l0 : List It) (h0 : Nat) (x : It) (b : Nat) (F : Nat → Prop) (bx : Nat) (h : Nat) (l : List It) (f : Int → Option Int) : Prop where
  raw : HRaw wr p v l (some b) f F
  box : Blk wr bx 52 [.int .i64 x.1, .int .i64 x.2]
  mod : Mod F w wr
  lt : h < l.length
  len : l.length = l0.length
  good : Mile.Good f l h x
  ids : ∀ i, i < l.length → i ≠ h → (g l i).1 ≠ x.1
  perm : (l.set h x).Perm (l0.set h0 x)
  box' : ¬ F bx

theorem HoleAt.later {w wr w' : World} {p : Nat} {v : Value} {l0 : List It} {h0 : Nat} {x : It} {b : Nat} {F : Nat → Prop} {bx h : Nat} {l : List It} {f : Int → Option Int} (s : HoleAt w wr p v l0 h0 x b F bx h l f) (hm : Mod (fun _ => False) wr w') : HoleAt w w' p v l0 h0 x b F bx h l f :=
  ⟨s.raw.keep hm (fun _ _ e => e), s.box.keep hm (fun e => e), s.mod.trans hm (fun _ _ e => e) (fun _ _ e => e.elim), s.lt, s.len, s.good, s.ids, s.perm, s.box'⟩

theorem ids_step {l : List It} {h d : Nat} {x : It} (hl : h < l.length) (hd : d < l.length) (hne : d ≠ h) (hx : ∀ i, i < l.length → i ≠ h → (g l i).1 ≠ x.1) : ∀ i, i < (l.set h (g l d)).length → i ≠ d → (g (l.set h (g l d)) i).1 ≠ x.1 := by
  intro i hi hid
  rw [List.length_set] at hi
  rw [g_set l h _ i hl]
  split
  · exact hx d hd hne
  · rename_i e; exact hx i hi e

/-- Behind a put of the one at d into the free place. -/
theorem HoleAt.step {w wr w' : World} {p : Nat} {v : Value} {l0 : List It} {h0 : Nat} {x : It} {b : Nat} {F : Nat → Prop} {bx h d : Nat} {l : List It} {f : Int → Option Int} (s : HoleAt w wr p v l0 h0 x b F bx h l f) (hd : d < l.length) (hne : d ≠ h)
    (hr : HRaw w' p v (l.set h (g l d)) (some b) (updf f (g l d).1 h) F) (hm : Mod F wr w') : HoleAt w w' p v l0 h0 x b F bx d (l.set h (g l d)) (updf f (g l d).1 h) :=
  ⟨hr, s.box.keep hm s.box', s.mod.trans hm (fun _ _ e => e) (fun _ _ e => e), by rw [List.length_set]; exact hd, by rw [List.length_set]; exact s.len, s.good.step s.lt hd hne (s.ids d hd hne), ids_step s.lt hd hne s.ids, (hole_perm l h d x s.lt hd hne).trans s.perm, s.box'⟩

set_option maxHeartbeats 4000000 in
theorem rise_any (p : Nat) (w : World) (v : Value) (l : List It) (b : Nat) (f : Int → Option Int) (F : Nat → Prop) (hr : HRaw w p v l (some b) f F) (h : Nat) (hl : l.length ≤ 1000000000) (hh : h < l.length) (x : It) (hx : okIt x)
    (hg : Mile.Good f l h x) (hids : ∀ i, i < l.length → i ≠ h → (g l i).1 ≠ x.1) (hup : UpInv l h x) :
    Calls Try.prog 18 #[.pointer (some ⟨p, 0, none⟩), .int .i64 h, itV x] w fun e w' => e = .returned (.tuple #[]) ∧ Settled p v l h x b F w w' := by
  obtain ⟨iI, hiI, zI, sI, bI⟩ := info_parts Hp.infoI
  obtain ⟨gb, cap, hv⟩ := hr.slice (by omega)
  subst hv
  obtain ⟨c, d⟩ := x
  unfold itV
  go_enter Try.func18, Try.ntmps18
  go_wp2_with fail
  have hM := Mod.alloc F w (.cells #[.int .i64 c, .int .i64 d] 52)
  have h1 := hr.keep (Mod.alloc (fun _ => False) w (.cells #[.int .i64 c, .int .i64 d] 52)) (fun _ _ e => e)
  have b1 := Blk.new w 52 [.int .i64 c, .int .i64 d]
  have hbx : ¬ F w.heap.size := fun e => by have := hr.lt _ e; omega
  obtain ⟨W, hW⟩ : ∃ W, w.alloc (.cells #[.int .i64 c, .int .i64 d] 52) = W := ⟨_, rfl⟩
  obtain ⟨bx, hbxx⟩ : ∃ bx, w.heap.size = bx := ⟨_, rfl⟩
  rw [hbxx] at b1 hbx ⊢
  change Blk (w.alloc (.cells #[.int .i64 c, .int .i64 d] 52)) bx _ _ at b1
  rw [hW] at hM h1 b1 ⊢
  clear hW hbxx hr
  go_loopw [1, 6] (fun i _ wr => ∃ (h' : Nat) (l' : List It) (f' : Int → Option Int), i = .int .i64 h' ∧ HoleAt w wr p (.slice (some ⟨gb, 0, none⟩) l.length cap) l h (c, d) b F bx h' l' f' ∧ UpInv l' h' (c, d)) (fun i _ _ => (intOf i).toNat)
  case atStart => exact ⟨h, l, f, rfl, ⟨h1, b1, hM, hh, rfl, hg, hids, List.Perm.refl _, hbx⟩, hup⟩
  case round =>
    clear h1 b1 hM
    obtain ⟨h', l', f', rfl, hS, hU⟩ := hrel
    have hlt := hS.lt
    have hln := hS.len
    by_cases h0 : h' = 0
    · subst h0
      have d0 := hS.box.cell 0 rfl
      have d1 := hS.box.cell 1 rfl
      go_wp2_with fail
      refine (put_any p wr _ l' b f' F hS.raw 0 hlt (by omega) (c, d) hx _ hS.good.keys (by rw [List.length_cons, List.length_map]; omega)).mono ?_
      rintro e w' ⟨rfl, hR, hMp⟩
      go_wp2
      go_end0
      exact ⟨rfl, _, _, hR, hS.perm, up_stop hlt hU (.inl rfl), hS.good.done hlt hS.ids, hS.mod.trans hMp (fun _ _ e => e) (fun _ _ e => e)⟩
    · have h0' : 0 < h' := by omega
      have h0i : (0 : Int) < (h' : Int) := by omega
      obtain ⟨u, hu⟩ : ∃ u, (h' - 1) / 2 = u := ⟨_, rfl⟩
      have hul : u < l'.length := by omega
      have hui : ((h' : Int) - 1) / 2 = (u : Int) := by omega
      have HUI := Lib.hid hui
      have HU := Lib.hid hu
      clear hui
      have hne : u ≠ h' := by omega
      have huh : u < h' := by omega
      clear hu
      obtain ⟨f1, f2⟩ := cell_it hS.raw.own u hul
      have c0 := hS.raw.blk.cell 0 rfl
      have d0 := hS.box.cell 0 rfl
      have d1 := hS.box.cell 1 rfl
      have hq2 : (u : Int) < (l.length : Int) := by omega
      go_wp2_with fail
      rw [HUI.out]
      go_still_tail 8, (by kernel_rfl)
      change wpList _ _ _ _ _ (World.drew wr)
      go_wp2_with fail
      refine (before_any (c, d) (g l' u) _).mono ?_
      rintro e w1 ⟨rfl, hM1⟩
      have hS1 := hS.later ((Mod.drew (fun _ => False) wr).trans hM1 (fun _ _ e => e) (fun _ _ e => e))
      clear f1 f2 c0 d0 d1 hM1
      obtain ⟨f1, f2⟩ := cell_it hS1.raw.own u hul
      have c0 := hS1.raw.blk.cell 0 rfl
      have d0 := hS1.box.cell 0 rfl
      have d1 := hS1.box.cell 1 rfl
      cases hbb : bef (c, d) (g l' u) with
      | true =>
        have hU2 := up_step hlt h0' hU (by rw [HU.out]; exact hbb)
        rw [HU.out] at hU2
        have hok : okIt (g l' u) := by rw [g_eq l' u hul]; exact hS1.raw.ok _ (List.getElem_mem hul)
        go_wp2_with fail
        refine (put_any p w1 _ l' b f' F hS1.raw h' hlt (by omega) (g l' u) hok _ hS1.good.keys (by rw [List.length_cons, List.length_map]; omega)).mono ?_
        rintro e w2 ⟨rfl, hR, hMp⟩
        go_wp2_with fail
        go_roundw
        case rel => exact ⟨u, _, _, rfl, hS1.step hul hne hR hMp, hU2⟩
        case measure => simp [intOf]; omega
      | false =>
        go_wp2_with fail
        refine (put_any p w1 _ l' b f' F hS1.raw h' hlt (by omega) (c, d) hx _ hS1.good.keys (by rw [List.length_cons, List.length_map]; omega)).mono ?_
        rintro e w2 ⟨rfl, hR, hMp⟩
        go_wp2
        go_end0
        exact ⟨rfl, _, _, hR, hS1.perm, up_stop hlt hU (.inr (by rw [HU.out]; exact hbb)), hS1.good.done hlt hS1.ids, hS1.mod.trans hMp (fun _ _ e => e) (fun _ _ e => e)⟩

theorem lesser_spec (l : List It) (h d : Nat) (hd : lesserI l (2 * h + 1) = d) : (d = 2 * h + 1 ∨ d = 2 * h + 2) ∧ (d < l.length → ∀ c, 0 < c → c < l.length → (c - 1) / 2 = h → bef (g l c) (g l d) = false) ∧ (l.length ≤ d → ∀ c, 0 < c → (c - 1) / 2 = h → l.length ≤ c) := by
  unfold lesserI at hd
  by_cases e : 2 * h + 1 + 1 < l.length
  · cases hb : bef (g l (2 * h + 1 + 1)) (g l (2 * h + 1)) with
    | true =>
      rw [hb] at hd
      simp [e] at hd
      subst hd
      refine ⟨.inr rfl, fun _ c c0 cl cp => ?_, fun hl => by omega⟩
      have : c = 2 * h + 1 ∨ c = 2 * h + 2 := by omega
      rcases this with rfl | rfl
      · exact bef_asymm hb
      · exact bef_irrefl _
    | false =>
      rw [hb] at hd
      simp at hd
      subst hd
      refine ⟨.inl rfl, fun _ c c0 cl cp => ?_, fun hl => by omega⟩
      have : c = 2 * h + 1 ∨ c = 2 * h + 2 := by omega
      rcases this with rfl | rfl
      · exact bef_irrefl _
      · exact hb
  · simp [e] at hd
    subst hd
    refine ⟨.inl rfl, fun hl c c0 cl cp => ?_, fun hl c c0 cp => by omega⟩
    have : c = 2 * h + 1 := by omega
    subst this
    exact bef_irrefl _

set_option maxHeartbeats 4000000 in
theorem sink_any (p : Nat) (w : World) (v : Value) (l : List It) (b : Nat) (f : Int → Option Int) (F : Nat → Prop) (hr : HRaw w p v l (some b) f F) (h : Nat) (hl : l.length ≤ 1000000000) (hh : h < l.length) (x : It) (hx : okIt x)
    (hg : Mile.Good f l h x) (hids : ∀ i, i < l.length → i ≠ h → (g l i).1 ≠ x.1) (hdn : DownInv l h x) :
    Calls Try.prog 16 #[.pointer (some ⟨p, 0, none⟩), .int .i64 h, itV x] w fun e w' => e = .returned (.tuple #[]) ∧ Settled p v l h x b F w w' := by
  obtain ⟨iI, hiI, zI, sI, bI⟩ := info_parts Hp.infoI
  obtain ⟨gb, cap, hv⟩ := hr.slice (by omega)
  subst hv
  obtain ⟨c, d⟩ := x
  unfold itV
  go_enter Try.func16, Try.ntmps16
  go_wp2_with fail
  have hM := Mod.alloc F w (.cells #[.int .i64 c, .int .i64 d] 52)
  have h1 := hr.keep (Mod.alloc (fun _ => False) w (.cells #[.int .i64 c, .int .i64 d] 52)) (fun _ _ e => e)
  have b1 := Blk.new w 52 [.int .i64 c, .int .i64 d]
  have hbx : ¬ F w.heap.size := fun e => by have := hr.lt _ e; omega
  obtain ⟨W, hW⟩ : ∃ W, w.alloc (.cells #[.int .i64 c, .int .i64 d] 52) = W := ⟨_, rfl⟩
  obtain ⟨bx, hbxx⟩ : ∃ bx, w.heap.size = bx := ⟨_, rfl⟩
  rw [hbxx] at b1 hbx ⊢
  change Blk (w.alloc (.cells #[.int .i64 c, .int .i64 d] 52)) bx _ _ at b1
  rw [hW] at hM h1 b1 ⊢
  clear hW hbxx hr
  go_loopw [1, 6] (fun i _ wr => ∃ (h' : Nat) (l' : List It) (f' : Int → Option Int), i = .int .i64 h' ∧ HoleAt w wr p (.slice (some ⟨gb, 0, none⟩) l.length cap) l h (c, d) b F bx h' l' f' ∧ DownInv l' h' (c, d)) (fun i _ _ => l.length - (intOf i).toNat)
  case atStart => exact ⟨h, l, f, rfl, ⟨h1, b1, hM, hh, rfl, hg, hids, List.Perm.refl _, hbx⟩, hdn⟩
  case round =>
    clear h1 b1 hM
    obtain ⟨h', l', f', rfl, hS, hU⟩ := hrel
    have hlt := hS.lt
    have hln := hS.len
    go_wp2_with fail
    rw [show 2 * (h' : Int) + 1 = ((2 * h' + 1 : Nat) : Int) by omega]
    refine (lesser_any p wr _ l' (some b) f' F hS.raw (2 * h' + 1) (by omega) (by omega)).mono ?_
    rintro e w0 ⟨rfl, hM0⟩
    obtain ⟨q, hq⟩ : ∃ q, lesserI l' (2 * h' + 1) = q := ⟨_, rfl⟩
    rw [hq]
    obtain ⟨s1, s2, s3⟩ := lesser_spec l' h' q hq
    clear hq
    have hS0 := hS.later hM0
    have c0 := hS0.raw.blk.cell 0 rfl
    have d0 := hS0.box.cell 0 rfl
    have d1 := hS0.box.cell 1 rfl
    by_cases hql : q < l'.length
    · obtain ⟨f1, f2⟩ := cell_it hS0.raw.own q hql
      have e1 : decide (l.length ≤ q) = false := by simp; omega
      have e2 : (q : Int) < (l.length : Int) := by omega
      go_wp2_with fail
      go_still_tail 16, (by kernel_rfl)
      change wpList _ _ _ _ _ (World.drew w0)
      go_wp2_with fail
      refine (before_any (g l' q) (c, d) _).mono ?_
      rintro e w1 ⟨rfl, hM1⟩
      have hS1 := hS0.later ((Mod.drew (fun _ => False) w0).trans hM1 (fun _ _ e => e) (fun _ _ e => e))
      clear f1 f2 c0 d0 d1 hM1 hS0 hM0
      obtain ⟨f1, f2⟩ := cell_it hS1.raw.own q hql
      have c0 := hS1.raw.blk.cell 0 rfl
      have d0 := hS1.box.cell 0 rfl
      have d1 := hS1.box.cell 1 rfl
      have hne : q ≠ h' := by omega
      cases hbb : bef (g l' q) (c, d) with
      | true =>
        have hU2 := down_step hlt hql (by omega) (by omega) hU hbb (s2 hql)
        have hok : okIt (g l' q) := by rw [g_eq l' q hql]; exact hS1.raw.ok _ (List.getElem_mem hql)
        go_wp2_with fail
        refine (put_any p w1 _ l' b f' F hS1.raw h' hlt (by omega) (g l' q) hok _ hS1.good.keys (by rw [List.length_cons, List.length_map]; omega)).mono ?_
        rintro e w2 ⟨rfl, hR, hMp⟩
        go_wp2_with fail
        go_roundw
        case rel => exact ⟨q, _, _, rfl, hS1.step hql hne hR hMp, hU2⟩
        case measure => simp [intOf]; omega
      | false =>
        go_wp2_with fail
        refine (put_any p w1 _ l' b f' F hS1.raw h' hlt (by omega) (c, d) hx _ hS1.good.keys (by rw [List.length_cons, List.length_map]; omega)).mono ?_
        rintro e w2 ⟨rfl, hR, hMp⟩
        go_wp2
        go_end0
        refine ⟨rfl, _, _, hR, hS1.perm, down_stop hlt hU (fun c' c0' cl cp => ?_), hS1.good.done hlt hS1.ids, hS1.mod.trans hMp (fun _ _ e => e) (fun _ _ e => e)⟩
        exact nbef_trans (s2 hql c' c0' cl cp) hbb
    · have e1 : decide (l.length ≤ q) = true := by simp; omega
      go_wp2_with fail
      go_quiet (fail)
      have hSd := hS0.later (Mod.drewN (fun _ => False) w0 nq)
      have c0 := hSd.raw.blk.cell 0 rfl
      have d0 := hSd.box.cell 0 rfl
      have d1 := hSd.box.cell 1 rfl
      go_wp2_with fail
      refine (put_any p _ _ l' b f' F hSd.raw h' hlt (by omega) (c, d) hx _ hSd.good.keys (by rw [List.length_cons, List.length_map]; omega)).mono ?_
      rintro e w2 ⟨rfl, hR, hMp⟩
      go_wp2
      go_end0
      refine ⟨rfl, _, _, hR, hSd.perm, down_stop hlt hU (fun c' c0' cl cp => ?_), hSd.good.done hlt hSd.ids, hSd.mod.trans hMp (fun _ _ e => e) (fun _ _ e => e)⟩
      have := s3 (by omega) c' c0' cp
      omega
end Go.Proofs.Ytheahhcbmknaoaa
