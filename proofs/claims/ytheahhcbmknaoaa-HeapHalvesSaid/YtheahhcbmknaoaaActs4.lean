/- The law HeapActs, walked. -/
import Derived.Test.YtheahhcbmknaoaaAwake4
import Derived.Test.YtheahhcbmknaoaaRefHeap2
import Derived.Test.YtheahhcbmknaoaaOpens
import Derived.Deep.RegionHeld3
import Derived.Deep.DeepCutAuto
import Derived.Deep.CutBlock
import Derived.Deep.QuietTactic
import Derived.BigQuiet
namespace Go.Proofs.Ytheahhcbmknaoaa
open Go.RowKit Mile

theorem HA.info33 : (Try.prog.info? 33).map (fun i => i.size) = some 2 := by kernel_rfl

/-- Both heaps, apart from each other, in blocks of the call's own, hold the same. -/
structure Two (w W : World) (p q : Nat) (S : List It) (F G : Nat → Prop) : Prop where
  h : HpO W p S F
  m : MHO W q S G
  dis : ∀ k, F k → ¬ G k
  fB : ∀ k, F k → w.heap.size ≤ k
  gB : ∀ k, G k → w.heap.size ≤ k
  mod : Mod (fun _ => False) w W

theorem Two.drew {w W : World} {p q : Nat} {S : List It} {F G : Nat → Prop} (h : Two w W p q S F G) : Two w W.drew p q S F G :=
  ⟨h.h.keep (Mod.drew (fun _ => False) _) (fun _ _ e => e), h.m.keep (Mod.drew (fun _ => False) _) (fun _ _ e => e), h.dis, h.fB, h.gB, h.mod.thenDrew⟩
theorem Two.later {w W W' : World} {p q : Nat} {S : List It} {F G : Nat → Prop} (h : Two w W p q S F G) (hm : Mod (fun _ => False) W W') : Two w W' p q S F G :=
  ⟨h.h.keep hm (fun _ _ e => e), h.m.keep hm (fun _ _ e => e), h.dis, h.fB, h.gB, h.mod.trans hm (fun _ _ e => e) (fun _ _ e => e)⟩
/-- Behind a call on the one, and one on the other. -/
theorem Two.both {w W W1 W2 : World} {p q : Nat} {S S' : List It} {F F' G G' : Nat → Prop} (h : Two w W p q S F G) (hp : HpO W1 p S' F') (ha : Aft W W1 F F') (hm : MHO W1 q S G → ∃ _ : True, MHO W2 q S' G' ∧ Aft W1 W2 G G') : Two w W2 p q S' F' G' := by
  have hm1 := h.m.keep ha.1 (fun k hg hf => h.dis k hf hg)
  obtain ⟨_, hm2, hb⟩ := hm hm1
  have hsz := h.mod.size
  have hGlt : ∀ k, G k → k < W.heap.size := fun k hk => by obtain ⟨_, _, _, _, _, h5, _⟩ := h.m; exact h5 k hk
  have hFB : ∀ k, F' k → w.heap.size ≤ k := fun k hk => (ha.2 k hk).elim (h.fB k) (fun e => by omega)
  have hd1 : ∀ k, F' k → ¬ G k := fun k hk hg => (ha.2 k hk).elim (fun e => h.dis k e hg) (fun e => by have := hGlt k hg; omega)
  have hFlt := hp.lt
  exact ⟨hp.keep hb.1 hd1, hm2, fun k hk hg => (hb.2 k hg).elim (hd1 k hk) (fun e => by have := hFlt k hk; omega), hFB, fun k hk => (hb.2 k hk).elim (h.gB k) (fun e => by have := ha.1.size; omega),
    (h.mod.trans ha.1 (fun _ _ e => e) (fun i hi e => by have := h.fB i e; omega)).trans hb.1 (fun _ _ e => e) (fun i hi e => by have := h.gB i e; omega)⟩

theorem opens_pairs : Opens Try.prog 22 (encSlice (encPair (encInt .i64) (encInt .i64))) :=
  opens_slice Try.underlying22 (by kernel_rfl) (opens_array2 Try.underlying33 (by kernel_rfl) (by kernel_rfl) (opens_int Try.underlying3)) (by decide)

theorem ok_pairs {w : World} {a : Option Addr} {n c : Nat} {L : List It} (ok : (encSlice (encPair (encInt .i64) (encInt .i64))).ok w (.slice a n c, L)) :
    L.length = n ∧ Rd w 2 (.slice a n c) n (L.flatMap cellsIt) ∧ ∀ x ∈ L, okIt x := by
  obtain ⟨hr, hb⟩ := ok
  have hr : Rd w 2 (.slice a n c) L.length (L.flatMap cellsIt) := hr
  have hn := hr.len_eq
  subst hn
  exact ⟨rfl, hr, fun x hx => hb x hx⟩

theorem pushS_len (S : List It) (id key : Int) : (pushS S id key).2.length ≤ S.length + 1 := by
  have hd : (dropS S id).length ≤ S.length := List.length_filter_le _ _
  have hi : ∀ T x, (insS T x).length = T.length + 1 := fun T x => by rw [(insS_perm T x).length_eq]; rfl
  unfold pushS
  split
  · split
    · exact Nat.le_succ _
    · simp only [hi]; omega
  · simp only [hi]; omega

theorem len_quiet (p : Nat) (n : Nat) (S : List It) (F : Nat → Prop) (w : World) (h : HpO w p S F) :
    Calls Try.prog 14 #[.pointer (some ⟨p, 0, none⟩)] (w.drewN n) fun e w' => e = .returned (.int .i64 S.length) ∧ w' = w.drewN n :=
  (len_any p (w.drewN n) S F (h.keep (Mod.drewN (fun _ => False) w n) (fun _ _ e => e))).mono fun e w' hh => ⟨hh.1, hh.2.symm⟩

def ActSt (w wx : World) (p q j : Nat) : Prop := ∃ S F G, Two w wx p q S F G ∧ S.length ≤ j

set_option maxHeartbeats 8000000 in
set_option maxRecDepth 100000 in
theorem acts_walk (w : World) (a : Option Addr) (n c : Nat) (L : List It) (hn : L.length = n) (hr : Rd w 2 (.slice a n c) n (L.flatMap cellsIt)) (hok : ∀ x ∈ L, okIt x) :
    Calls Try.prog 3 #[.slice a n c] w fun e w' => e = .returned (.bool true) ∧ Mod (fun _ => False) w w' := by
  obtain ⟨i33, hi33, hs33⟩ := Option.map_eq_some_iff.1 HA.info33
  obtain ⟨iK, hiK, zK, sK, bK⟩ := info_parts MH.infoK
  have HN := Lib.hid hn
  clear hn
  by_cases hbig : 100 < n
  · go_enter Try.func3, Try.ntmps3
    go_wp2_with fail
    refine (awake_any _).mono ?_
    rintro e w9 ⟨rfl, hM9⟩
    go_wp2
    go_ret
    exact ⟨rfl, hM9⟩
  have q1 : n ≤ 100 := by omega
  clear hbig
  go_enter Try.func3, Try.ntmps3
  go_wp2_with fail
  have hT0 : Two w ((w.alloc (.cells #[.slice none 0 0, .map none] 28)).alloc (.cells #[.slice none 0 0] 32)) w.heap.size (w.heap.size + 1) [] (fun k => k = w.heap.size) (fun k => k = w.heap.size + 1) :=
    ⟨(HpO.new w _ rfl).keep (Mod.alloc (fun _ => False) _ _) (fun _ _ e => e), MHO.new _ _ (by simp), fun k h1 h2 => by omega, fun k hk => by omega, fun k hk => by omega, ((Mod.refl _ w).thenAlloc _).thenAlloc _⟩
  obtain ⟨p, hp⟩ : ∃ p, w.heap.size = p := ⟨_, rfl⟩
  obtain ⟨q, hq⟩ : ∃ q, w.heap.size + 1 = q := ⟨_, rfl⟩
  rw [hq] at hT0 ⊢
  rw [hp] at hT0 ⊢
  have HPP := Lib.hid hp
  have HQQ := Lib.hid hq
  clear hp hq
  go_loopw [5] (fun i wr => ∃ (j : Nat), j ≤ n ∧ i = .int .i64 j ∧ ActSt w wr p q j) (fun i _ => n - (intOf i).toNat)
  case atStart => exact ⟨0, by omega, rfl, [], _, _, hT0, by simp⟩
  case round =>
    clear hT0
    obtain ⟨j, hj, rfl, S, F, G, hT, hSl⟩ := hrel
    by_cases hlt : j < n
    · have hjl : j < L.length := by rw [HN.out]; exact hlt
      obtain ⟨_, b, o, hpl, e1, e2⟩ := rd_it hr j hjl
      have hix := fun wx => run_indexS (P := Try.prog) wx 22 33 i33 2 Try.underlying22 hi33 hs33 a n c j hlt (hr.some_ (by omega))
      rw [hpl] at hix
      have hxo := hok _ (g_mem hjl)
      obtain ⟨x, hx⟩ : ∃ x, g L j = x := ⟨_, rfl⟩
      rw [hx] at e1 e2 hxo
      clear hx hpl
      obtain ⟨x1, x2⟩ := x
      simp only at e1 e2
      have HC : Hid (∀ W, Mod (fun _ => False) w W → W.cell? ⟨b, o, none⟩ = some (.int .i64 x1) ∧ W.cell? ⟨b, o + 1, none⟩ = some (.int .i64 x2)) := Lib.hid fun W hm => ⟨hm.cell e1 (fun e => e), hm.cell e2 (fun e => e)⟩
      clear e1 e2
      obtain ⟨e1, e2⟩ := HC.out _ hT.mod
      go_upto_if 34 with fail
      go_cut [13] (fun _ wx => ActSt w wx p q (j + 1))
      case first =>
        cases hm : (x1.tmod 5 == 4) with
        | true =>
          obtain ⟨hsS, hiS, _⟩ := hT.h.ok
          cases S with
          | nil =>
            go_wp2_with fail
            refine (hpop_any p _ [] F hT.h (by simp)).mono ?_
            rintro e w1 ⟨rfl, hO, hM⟩
            go_wp2_with fail
            have hmk := hT.m.keep hM (fun k hg hf => hT.dis k hf hg)
            refine (rpop_any q _ [] G hmk).mono ?_
            rintro e w2 ⟨rfl, hO2, hM2⟩
            have hT2 : Two w w2 p q [] F G := hT.both hO (Aft.ofMod hM) (fun _ => ⟨trivial, hO2, Aft.ofMod hM2⟩)
            go_wp2_with fail
            go_meet
            exact ⟨[], F, G, hT2.later (Mod.alloc _ _ _), by simp⟩
          | cons y r =>
            go_wp2_with fail
            refine (hpop_any p _ (y :: r) F hT.h (by omega)).mono ?_
            rintro e w1 ⟨rfl, hO, hM⟩
            go_wp2_with fail
            have hmk := hT.m.keep hM (fun k hg hf => hT.dis k hf hg)
            refine (rpop_any q _ (y :: r) G hmk).mono ?_
            rintro e w2 ⟨rfl, hO2, hM2⟩
            have hT2 : Two w w2 p q r F G := hT.both hO (Aft.ofMod hM) (fun _ => ⟨trivial, hO2, Aft.ofMod hM2⟩)
            have hsr : r.length ≤ j + 1 := by rw [List.length_cons] at hSl; omega
            go_wp2_with fail
            go_meet
            exact ⟨r, F, G, hT2.later (Mod.alloc _ _ _), hsr⟩
        | false =>
          have hSl9 : S.length ≤ 900000000 := by omega
          obtain ⟨hsS, hiS, _⟩ := hT.h.ok
          have hTd := hT.drew
          have hp2 := pushS_len S x1 x2
          obtain ⟨pr, hpr⟩ : ∃ pr, pushS S x1 x2 = pr := ⟨_, rfl⟩
          have HPR := Lib.hid hpr
          go_wp2_with fail
          go_region_held3 (fun w' => w'.cell? ⟨b, o, none⟩ = some (.int .i64 x1) ∧ w'.cell? ⟨b, o + 1, none⟩ = some (.int .i64 x2)) (first | exact e3 | exact e4 | go_keep) (first
            | (go_at_call 10; refine (hpush_any p _ S F hTd.h hSl9 x1 x2 hxo.1 hxo.2).mono ?_; rintro e w1 ⟨rfl, F1, hO1, hA1⟩; have e3 := HC.out w1 (hTd.mod.trans hA1.1 (fun _ _ e => e) (fun i hi e => by have := hTd.fB i e; omega)); have hmk := hTd.m.keep hA1.1 (fun k hg hf => hTd.dis k hf hg))
            | (go_at_call 11; refine (rpush_any q _ S G hmk hsS hiS hSl9 x1 x2 hxo.1 hxo.2).mono ?_; rintro e w2 ⟨rfl, G1, hO2, hA2⟩; have hT2 : Two w w2 p q (pushS S x1 x2).2 F1 G1 := hTd.both hO1 hA1 (fun _ => ⟨trivial, hO2, hA2⟩); have e4 := HC.out w2 hT2.mod))
          rw [hpr] at hT2 hp2
          clear hpr
          obtain ⟨pb, pS⟩ := pr
          simp only at hT2 hp2
          cases pb with
          | true =>
            go_wp2_with fail
            go_meet
            exact ⟨pS, F1, G1, hT2, by omega⟩
          | false =>
            go_wp2_with fail
            go_meet
            exact ⟨pS, F1, G1, hT2, by omega⟩
      case rest =>
        clear hT hSl e1 e2
        obtain ⟨S, F, G, hT, hSl⟩ := hcut
        obtain ⟨e1, e2⟩ := HC.out _ hT.mod
        obtain ⟨hsS, hiS, _⟩ := hT.h.ok
        go_wp2_with fail
        refine (hkey_any p _ S F hT.h x1 hxo.1).mono ?_
        rintro e w1 ⟨rfl, rfl⟩
        go_wp2_with fail
        refine (find_any q _ S G hT.m x1).mono ?_
        rintro e w1 ⟨rfl, hcase⟩
        have hm4 := hT.m
        obtain ⟨v, h1, h2, h3, h4, h5, h6⟩ := hm4
        obtain ⟨a4, c4, hv⟩ : ∃ a c, v = .slice a S.length c := by obtain ⟨_, a, c, hv, _⟩ := h2; exact ⟨a, c, hv⟩
        subst hv
        have c0 := h1.cell 0 rfl
        have hlen := fun W (hm : Mod (fun _ => False) wc W) => len_any p W S F (hT.h.keep hm (fun _ _ e => e))
        rcases hcase with ⟨rfl, hk⟩ | ⟨i, hi, rfl, hg⟩
        · rw [hk]
          go_wp2_with fail
          go_quiet ((go_at_call 14; exact Calls.quiet_of_same (len_quiet p _ S F wc hT.h)))
          go_wp2_with fail
          go_roundw
          case rel => exact ⟨j + 1, hlt, by go_num, S, F, G, hT.later (Mod.drewN _ _ _), hSl⟩
          case measure => simp [intOf]; omega
        · have hk := keyS_some hiS (g_mem hi) hg
          rw [hk]
          obtain ⟨_, b5, o5, hp5, f1, f2⟩ := rd_it h2 i hi
          have hix5 := fun wx => run_indexS (P := Try.prog) wx 30 38 iK 2 Try.underlying30 hiK sK a4 S.length c4 i hi (h2.some_ (by omega))
          rw [hp5] at hix5
          obtain ⟨y, hy⟩ : ∃ y, (g S i).2 = y := ⟨_, rfl⟩
          rw [hy] at f2 ⊢
          clear hy hk hp5
          have hdec : decide ((0 : Int) ≤ (i : Int)) = true := by simp
          go_wp2_with fail
          go_quiet ((go_at_call 14; exact Calls.quiet_of_same (len_quiet p _ S F wc hT.h)))
          go_wp2_with fail
          go_roundw
          case rel => exact ⟨j + 1, hlt, by go_num, S, F, G, hT.later (Mod.drewN _ _ _), hSl⟩
          case measure => simp [intOf]; omega
    · obtain rfl : j = n := by omega
      go_wp2_with fail
      refine (awake_any _).mono ?_
      rintro e w9 ⟨rfl, hM9⟩
      go_wp2
      go_ret
      exact ⟨rfl, hT.mod.trans hM9 (fun _ _ e => e) (fun _ _ e => e)⟩

theorem acts_all (w : World) (a : Option Addr) (n c : Nat) (L : List It) (ok : (encSlice (encPair (encInt .i64) (encInt .i64))).ok w (.slice a n c, L)) :
    Calls Try.prog 3 #[.slice a n c] w fun e w' => e = .returned (.bool true) ∧ Below w.heap.size w w' := by
  obtain ⟨hn, hr, hok⟩ := ok_pairs ok
  exact (acts_walk w a n c L hn hr hok).mono fun e w' h => ⟨h.1, h.2.below (Nat.le_refl _) (fun _ e => e.elim)⟩

end Go.Proofs.Ytheahhcbmknaoaa
