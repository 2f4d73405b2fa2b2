/- timer's Stop and due by contract: what is collected out of a map, in whatever order, and sorted. -/
import Derived.Test.YtdahoecejnnjkaaTm2
import Derived.Test.YtdahoecejnnjkaaSortI
namespace Go
open Go.Maps (Keyed)
/-- The step over a map of waits: an entry of the list comes, whichever. -/
theorem wpList_next_W {P : Program} (w : World) {ops : Array Oper} {rest : List Oper} {o : Oper} {a : Act} {Q : Exit → Act → World → Prop} (hg : o.guard = none) (it : Operand) (hop : o.op = Op.next it false) (k : TypeId) (K : Keyed P k) (hk : P.underlying k = some (.int .i64))
    (b r n : Nat) (L : List Mile.Wt) (left : Lit → Bool) (cnt : Nat) (hit : a.eval it = .pointer (some ⟨r, 0, none⟩)) (h : w.ranges P k Mile.waitR b r n (Mile.tmD L) left cnt)
    (hDone : cnt = 0 → (∀ kl, left kl = false) → wpList P ops Q rest (a.put o.dst (.tuple #[.bool false])) w)
    (hMore : ∀ (e : Mile.Wt) (w' : World) (cnt' : Nat), e ∈ L → left (.int .i64 e.id) = true → w'.ranges P k Mile.waitR b r n (Mile.tmD L) (fun z => left z && !z.sameKey (.int .i64 e.id)) cnt' → cnt' < cnt →
      w.grownBy w' (some r) → w'.heap.size = w.heap.size → (Instr.entry (.pointer (some ⟨r, 0, none⟩))).run P w' = .ok (.tuple #[.int .i64 e.id, .agg #[.int .i64 e.due, .int .i64 (e.n : Int)]]) w' → wpList P ops Q rest (a.put o.dst (.tuple #[.bool true, .int .i64 e.id, .agg #[.int .i64 e.due, .int .i64 (e.n : Int)]])) w') :
    wpList P ops Q (o :: rest) a w :=
  wpList_next_ranges w hg it hop k K Mile.waitR (Value.int .i64) (fun c : Int × Int => .agg #[.int .i64 c.1, .int .i64 c.2]) (fun key kl hkey => by obtain ⟨x, rfl, _⟩ := Maps.keyOf_int_inv hk hkey; exact ⟨x, rfl⟩) (fun v y hv => by obtain ⟨a, b, rfl, _⟩ := Mile.waitR_inv hv; exact ⟨(a, b), rfl⟩)
    b r n _ left cnt hit h hDone (fun x c kl y w' cnt' hkey hlk hv hat hrg hlt hgr hsz hen => by
      obtain ⟨x', ex, rfl, hwx⟩ := Maps.keyOf_int_inv hk hkey
      cases ex
      have hv2 : some (DataW.agg [.lit (.int .i64 c.1), .lit (.int .i64 c.2)], []) = some y := hv
      cases hv2
      have h1 := hat (.agg [])
      rw [Mile.tmD_at] at h1
      cases hf : L.find? (fun e => decide (e.id = x)) with
      | none => rw [hf] at h1; cases h1
      | some e =>
        rw [hf] at h1
        have hid := List.find?_some hf
        have hmem := List.mem_of_find?_eq_some hf
        have hid2 : e.id = x := by simpa using hid
        have h2 : (DataW.agg [.lit (.int .i64 e.due), .lit (.int .i64 (e.n : Int))] : DataW Unit) = .agg [.lit (.int .i64 c.1), .lit (.int .i64 c.2)] := h1
        injection h2 with h2
        injection h2 with h3 h4
        injection h3 with h3
        injection h3 with _ h3
        injection h4 with h4
        injection h4 with h4
        injection h4 with _ h4
        have hm := hMore e w' cnt' hmem (by rw [hid2]; exact hlk) (by rw [hid2]; exact hrg) hlt hgr hsz
        rw [hid2, h3, h4] at hm
        exact hm hen)
end Go
namespace Go.Proofs.Ytdahoecejnnjkaa
open Go.RowKit Mile Go.Maps
set_option maxRecDepth 100000
/-- What has been collected: those that are due and are not to come any more, each once. -/
def DueC (L : List Wt) (now : Int) (left : Lit → Bool) (zs : List Int) : Prop :=
  zs.Nodup ∧ ∀ x, x ∈ zs ↔ ∃ e ∈ L, e.id = x ∧ e.due ≤ now ∧ left (.int .i64 x) = false
theorem DueC.start (L : List Wt) (now : Int) : DueC L now (Maps.has (tmD L)) [] := by
  refine ⟨List.nodup_nil, fun x => ⟨fun h => (by simp at h), ?_⟩⟩
  rintro ⟨e, he, rfl, _, hl⟩
  rw [tmD_has] at hl
  have := List.any_eq_false.1 hl e he
  simp at this
theorem rise_one {L : List Wt} (h : RiseW L) {e e' : Wt} (he : e ∈ L) (he' : e' ∈ L) (hid : e.id = e'.id) : e = e' := by
  induction L with
  | nil => simp at he
  | cons y L ih =>
    obtain ⟨h1, h2⟩ := RiseW.cons.1 h
    rcases List.mem_cons.1 he with e1 | e1
    · rcases List.mem_cons.1 he' with e2 | e2
      · rw [e1, e2]
      · have := h1 _ e2; rw [e1] at hid; omega
    · rcases List.mem_cons.1 he' with e2 | e2
      · have := h1 _ e1; rw [e2] at hid; omega
      · exact ih h2 e1 e2
theorem DueC.no {L : List Wt} {now : Int} {left : Lit → Bool} {zs : List Int} (h : DueC L now left zs) (hr : RiseW L) {e : Wt} (he : e ∈ L) (hd : ¬ e.due ≤ now) : DueC L now (fun z => left z && !z.sameKey (.int .i64 e.id)) zs := by
  refine ⟨h.1, fun x => (h.2 x).trans ⟨?_, ?_⟩⟩
  · rintro ⟨e', h1, rfl, h2, h3⟩
    exact ⟨e', h1, rfl, h2, by dsimp only; rw [h3]; rfl⟩
  · rintro ⟨e', h1, rfl, h2, h3⟩
    refine ⟨e', h1, rfl, h2, ?_⟩
    have hne : e'.id ≠ e.id := fun x => by rw [rise_one hr h1 he x] at h2; exact hd h2
    dsimp only at h3
    rw [same_int] at h3
    simpa [hne] using h3
theorem DueC.yes {L : List Wt} {now : Int} {left : Lit → Bool} {zs : List Int} (h : DueC L now left zs) {e : Wt} (he : e ∈ L) (hl : left (.int .i64 e.id) = true) (hd : e.due ≤ now) : DueC L now (fun z => left z && !z.sameKey (.int .i64 e.id)) (zs ++ [e.id]) := by
  have hnot : e.id ∉ zs := fun hm => by
    obtain ⟨_, _, _, _, h4⟩ := (h.2 _).1 hm
    rw [hl] at h4; cases h4
  refine ⟨List.nodup_append.2 ⟨h.1, by simp, fun a ha b hb => by simp at hb; subst hb; exact fun x => hnot (x ▸ ha)⟩, fun x => ?_⟩
  rw [List.mem_append, List.mem_singleton, h.2 x]
  constructor
  · rintro (⟨e', h1, rfl, h2, h3⟩ | rfl)
    · exact ⟨e', h1, rfl, h2, by dsimp only; rw [h3]; rfl⟩
    · exact ⟨e, he, rfl, hd, by dsimp only; rw [same_int]; simp⟩
  · rintro ⟨e', h1, rfl, h2, h3⟩
    by_cases hx : e'.id = e.id
    · exact .inr hx
    · dsimp only at h3
      rw [same_int] at h3
      exact .inl ⟨e', h1, rfl, h2, by simpa [hx] using h3⟩
theorem nodup_of_rise {L : List Wt} (h : RiseW L) : (L.map (·.id)).Nodup := List.Pairwise.imp (fun h => by omega) h
theorem DueC.len {L : List Wt} {now : Int} {left : Lit → Bool} {zs : List Int} (h : DueC L now left zs) : zs.length ≤ L.length := by
  have := nodup_length zs (L.map (·.id)) h.1 (fun x hx => by obtain ⟨e, he, rfl, _⟩ := (h.2 x).1 hx; exact List.mem_map_of_mem he)
  simpa using this
theorem DueC.done {L : List Wt} {now : Int} {left : Lit → Bool} {zs : List Int} (h : DueC L now left zs) (hr : RiseW L) (hl : ∀ kl, left kl = false) : srtI zs = (dueE L now).map (·.id) := by
  have hsub : RiseW (dueE L now) := hr.sub (List.filter_sublist.map _)
  have hp : zs.Perm ((dueE L now).map (·.id)) := by
    rw [List.perm_iff_count]
    intro x
    rw [h.1.count, (nodup_of_rise hsub).count]
    have : x ∈ zs ↔ x ∈ (dueE L now).map (·.id) := by
      rw [h.2 x, List.mem_map]
      constructor
      · rintro ⟨e, h1, rfl, h2, _⟩
        exact ⟨e, List.mem_filter.2 ⟨h1, by simpa using h2⟩, rfl⟩
      · rintro ⟨e, h1, rfl⟩
        obtain ⟨h2, h3⟩ := List.mem_filter.1 h1
        exact ⟨e, h2, rfl, by simpa using h3, hl _⟩
    simp only [this]
  exact List.Perm.eq_of_pairwise (le := (· ≤ ·)) (fun a b _ _ h1 h2 => by omega) (srtI_sorted zs) (List.Pairwise.imp (fun h => by omega) hsub) ((srtI_perm zs).trans hp)
theorem ranges_keepM {w w' : World} {b r n : Nat} {D : DataW Unit} {left : Lit → Bool} {cnt : Nat} {G : Nat → Prop} (h : w.ranges Try.prog 3 waitR b r n D left cnt) (hm : Mod G w w') (hb : ¬ G b) (hr : ¬ G r) : w'.ranges Try.prog 3 waitR b r n D left cnt := by
  have h1 := h.owns.lt
  have h2 := h.lt
  obtain ⟨es, clock, since, seen, c0, hbb, F, hs, hD, hrr, rest⟩ := h
  exact ⟨es, clock, since, seen, c0, (hm.block b h1 hb).trans hbb, F, hs, hD, (hm.block r h2 hr).trans hrr, rest⟩
theorem Tm.info3 : (Try.prog.info? 3).map (fun i => (i.zero, i.size, i.bytes)) = some (some (.int .i64 0), 1, 8) := by kernel_rfl
set_option maxHeartbeats 4000000 in
theorem due_any (w : World) (p : Nat) (mb : Option Nat) (B M R : Nat) (L : List Wt) (h : TM w p mb B M R L) (hL : L.length ≤ 1000000000) (now : Int) :
    Calls Try.prog 62 #[.pointer (some ⟨p, 0, none⟩), .int .i64 now] w fun e w' => ∃ a c, e = .returned (.slice a (dueE L now).length c) ∧ World.ownsRow w' w.heap.size 3 1 (.slice a (dueE L now).length c) (dueE L now).length (((dueE L now).map (·.id)).map (Value.int .i64)) ∧ Mod (fun _ => False) w w' := by
  obtain ⟨iI, hiI, hzI, hsI, hbI⟩ := info_parts Tm.info3
  have hrise := h.rise
  have c3 := h.blk.cell 3 rfl
  cases mb with
  | none =>
    have hL0 := h.none_ rfl
    subst hL0
    clear h hrise
    have hrg := run_range_nilMap (P := Try.prog) w 105 3 136 Try.underlying105
    have hnx : ∀ ty, (Instr.next (.pointer (some ⟨w.heap.size, 0, none⟩)) false ty).run Try.prog (w.alloc (.mapIter none 0 #[] 0)) = _ := fun ty => run_next_nilMap w ty 0 0 #[]
    go_enter Try.func62, Try.ntmps62
    go_wp2
    refine wp_loop_rounds 1 ?_
    rw [rounds_succ]
    go_wp2_with fail
    refine (sort_own (base := w.heap.size) (n := 0) (zs := []) (World.ownsRow_nil _ _ _ _) (by omega)).mono ?_
    rintro e w' ⟨rfl, ho, hm⟩
    go_wp2_with fail
    go_ret
    exact ⟨none, 0, rfl, by simpa [dueE, srtI] using ho, (Mod.alloc (fun _ => False) w _).of2 (hm.mono (fun k _ e => by cases e))⟩
  | some b =>
    obtain ⟨hbp, hwm⟩ := h.some_ b rfl
    have HWM := Lib.hid hwm
    have HRI := Lib.hid hrise
    clear h hwm hrise
    go_enter Try.func62, Try.ntmps62
    go_wp2_with (first
      | (at_range; refine wpList_range_own _ rfl _ 105 rfl 3 136 Tm.key Try.underlying105 _ b L.length _ rfl HWM.out ?_; intro w0 hrg0 hg0 hs0)
      | go_in)
    go_frame
    obtain ⟨r, hr⟩ : ∃ r, w.heap.size = r := ⟨_, rfl⟩
    rw [hr] at hrg0 hs0 ⊢
    have HR := Lib.hid hr
    have hm0 := (Mod.ofGrown hg0).mono (G := fun _ => False) (fun k _ e => by cases e)
    have HM0 := Lib.hid hm0
    clear hr hm0 hg0
    go_loopw [5] (fun v wr => ∃ (left : Lit → Bool) (cnt : Nat) (zs : List Int) (n : Nat), wr.ranges Try.prog 3 waitR b r L.length (tmD L) left cnt ∧ zs.length = n ∧ World.ownsRow wr (r + 1) 3 1 v n (zs.map (Value.int .i64)) ∧ DueC L now left zs ∧ Mod (fun k => k = r) w0 wr) (fun _ wr => wr.rangeLeft b r)
    case atStart => exact ⟨_, _, [], 0, hrg0, rfl, World.ownsRow_nil _ _ _ _, DueC.start L now, Mod.refl _ _⟩
    case round =>
      obtain ⟨left, cnt, zs, n, hrg, hzn, ho, hd, hmr⟩ := hrel
      obtain ⟨wo, hwo⟩ : ∃ x : World, x = wr := ⟨_, rfl⟩
      subst hwo
      obtain ⟨av, cv, rfl⟩ := own_form ho
      have HO := Lib.hid ho
      have HD := Lib.hid hd
      have HMR := Lib.hid hmr
      have HZN := Lib.hid hzn
      have hnL : n ≤ 1000000000 := by have := hd.len; omega
      clear ho hd hmr hzn
      have hbr : b ≠ r := fun e => hrg.ne e.symm
      have hbl := hrg.owns.lt
      have hrl := hrg.lt
      have hb0 := hrg0.owns.lt
      have hszo := HMR.out.size
      go_wp2_with (first
        | (at_next; refine wpList_next_W _ rfl _ rfl 3 Tm.key Try.underlying3 b r L.length L _ _ rfl hrg ?_ ?_)
        | go_in)
      · intro hc0 hl0
        have HL0 := Lib.hid hl0
        clear hl0 hrg hrg0
        go_wp2_with fail
        refine (sort_own HO.out hnL).mono ?_
        rintro e w' ⟨rfl, hso, hsm⟩
        have he := HD.out.done HRI.out HL0.out
        rw [he] at hso
        have hlen : (dueE L now).length = n := by have h := congrArg List.length he; rw [srtI_len, List.length_map, HZN.out] at h; exact h.symm
        have HSO := Lib.hid hso
        have HSM := Lib.hid hsm
        have HLEN := Lib.hid hlen
        clear hso hsm he hlen
        go_wp2_with fail
        go_ret
        refine ⟨av, cv, by rw [HLEN.out]; rfl, by rw [HLEN.out]; exact Own.base HSO.out (by have := HR.out; omega), ?_⟩
        exact (HM0.out.trans HMR.out (H := fun _ => False) (fun _ _ e => e) (fun i hi e => by have := HR.out; omega)).trans HSM.out (fun _ _ e => e) (fun i hi e => by have := (HO.out.lt i e).1; have := HR.out; omega)
      · intro e w1 cnt1 hmem hlx hrg1 hlt hg1 hs1 hen
        have hm1 := Mod.ofGrown hg1
        have ho1 := Own.keep HO.out hm1 (fun k hk x => by have := (HO.out.lt k hk).1; injection x with x; omega)
        have HO1 := Lib.hid ho1
        have HG1 := Lib.hid hrg1
        have HM1 := Lib.hid hm1
        have HG := Lib.hid hrg
        have HEM := Lib.hid hmem
        have HLX := Lib.hid hlx
        clear ho1 hm1 hg1 hrg hrg1 hrg0 hlx hmem
        by_cases hdue : e.due ≤ now
        case neg =>
          have z0 : decide (e.due ≤ now) = false := by simpa using hdue
          have hd1 := HD.out.no HRI.out HEM.out hdue
          have HD1 := Lib.hid hd1
          clear hd1 hdue
          go_wp2_with fail
          have hmA : Mod (fun _ => False) w1 (w1.alloc (.cells #[.int .i64 e.due, .int .i64 (e.n : Int)] 136)) := Mod.alloc _ _ _
          have hgA := ranges_keepM HG1.out hmA (fun x => x) (fun x => x)
          go_roundw
          case rel => exact ⟨_, cnt1, zs, n, hgA, HZN.out, Own.keep HO1.out hmA (fun _ _ x => x), HD1.out, (HMR.out.trans HM1.out (H := fun k => k = r) (fun _ _ x => x) (fun i _ x => by injection x with x; exact x.symm)).trans hmA (fun _ _ x => x) (fun _ _ x => x.elim)⟩
          case measure => rw [hgA.left_eq, HG.out.left_eq]; exact hlt
        case pos =>
          have z0 : decide (e.due ≤ now) = true := by simpa using hdue
          have hd1 := HD.out.yes HEM.out HLX.out hdue
          have HD1 := Lib.hid hd1
          clear hd1 hdue
          have hrs : r + 1 ≤ w1.heap.size := by rw [hs1]; omega
          have HRS := Lib.hid hrs
          clear hrs
          go_wp2_with (at_builtin; refine wpList_append_any rfl (.tmp 24) (.tmp 26) 70 rfl 3 iI (.int .i64 0) 1 8 Try.underlying70 hiI hzI hsI hbI rfl (by decide) _ n (zs.map (Value.int .i64)) rfl (World.ownsRow.alloc (World.ownsRow.alloc (Own.base HO1.out (Nat.zero_le _)) _) _) _ 1 [.int .i64 e.id] rfl (Rd.lit 3 [.int .i64 e.id] (0, 0) (wo.heap.size + 1) 1 (by simp [hs1]) rfl (by decide)) (by intro u hu; simp at hu; subst hu; rfl) (by unfold maxLen; omega) (by omega) ?_; intro v4 w4 hap; obtain ⟨a4, c4, rfl⟩ := hap.form; have ho4 := hap.own; have lo4 := hap.low (B := r + 1) (by have := HRS.out; simp; omega) (fun k hk => (HO1.out.lt k hk).1); have hmq := hap.mod; have ho5 := Own.rebase ho4 lo4; have HO5 := Lib.hid ho5; have HMQ := Lib.hid hmq; clear hap ho4 lo4 ho5 hmq)
          have hmA : Mod (fun k => (Value.slice av n cv).ownBlock = some k) w1 w4 := ((Mod.alloc (fun _ => False) w1 _).trans (Mod.alloc (fun _ => False) _ _) (H := fun _ => False) (fun _ _ x => x) (fun _ _ x => x)).trans HMQ.out (fun _ _ x => x.elim) (fun _ _ x => x)
          have hgA := ranges_keepM HG1.out hmA (fun x => by have := (HO1.out.lt b x).1; omega) (fun x => by have := (HO1.out.lt r x).1; omega)
          go_roundw
          case rel => exact ⟨_, cnt1, zs ++ [e.id], n + 1, hgA, by simp [HZN.out], by rw [List.map_append]; exact HO5.out, HD1.out, (HMR.out.trans HM1.out (H := fun k => k = r) (fun _ _ x => x) (fun i _ x => by injection x with x; exact x.symm)).trans hmA (fun _ _ x => x) (fun i hi x => by have := (HO1.out.lt i x).1; omega)⟩
          case measure => rw [hgA.left_eq, HG.out.left_eq]; exact hlt
end Go.Proofs.Ytdahoecejnnjkaa
