/- The law's own look at what the document fixes (milepostlaw1.awake): true, and nothing that was there has turned. -/
import Derived.Test.YtdccpikddhpleaaRdrL
import Derived.Test.YtdccpikddhpleaaBase2
import Derived.Test.YtdccpikddhpleaaFr2
import Derived.Test.YtdccpikddhpleaaChk
import Derived.Test.YtdccpikddhpleaaBack6
import Derived.Test.YtdccpikddhpleaaMay
import Derived.Test.YtdccpikddhpleaaFileP
import Derived.Test.YtdccpikddhpleaaEvG
import Derived.Deep.DeepCutAuto
import Derived.Deep.CutBlock
import Derived.Lib.SlBytesConst
namespace Go.Proofs.Ytdccpikddhpleaa
open Go.RowKit Mile
set_option maxRecDepth 100000

end Go.Proofs.Ytdccpikddhpleaa
namespace Go.Proofs.Ytdccpikddhpleaa
open Go.RowKit Mile
set_option maxRecDepth 100000

theorem msize_any (n : Int) (w : World) : Calls Try.prog 41 #[.int .i64 n] w fun e w' => e = .returned (.bool (sizeOk n)) ∧ w = w' := by
  by_cases h1 : 1 ≤ n
  · by_cases h2 : n ≤ 7
    · go_enter Try.func41, Try.ntmps41
      go_wp2
      go_ret
      exact ⟨by simp [sizeOk, h1, h2], rfl⟩
    · go_enter Try.func41, Try.ntmps41
      go_wp2
      go_ret
      exact ⟨by simp [sizeOk, h2], rfl⟩
  · go_enter Try.func41, Try.ntmps41
    go_wp2
    go_ret
    exact ⟨by simp [sizeOk]; omega, rfl⟩

/-- A milepostref1.Reader at block p; its bytes lie below block B, where there are any. -/
def MR (w : World) (p : Nat) (s : Option (List Int)) (B : Nat) : Prop :=
  ∃ v bs, Blk w p 74 [v, .bool s.isNone] ∧ Rd w 1 v bs.length (bs.map (Value.int .u8)) ∧ (s = none ∨ s = some bs) ∧ B ≤ p ∧ (∀ k, v.ownBlock = some k → B ≤ k → bs = [])

theorem MR.keep {w w' : World} {p : Nat} {s : Option (List Int)} {B : Nat} {G : Nat → Prop} (h : MR w p s B) (hm : Mod G w w') (hp : ¬ G p) (hB : ∀ k, G k → B ≤ k) : MR w' p s B := by
  obtain ⟨v, bs, h1, h2, h3, h4, h5⟩ := h
  exact ⟨v, bs, h1.keep hm hp, h2.keepA hm (fun k hk hg => by rw [h5 k hk (hB k hg)]; rfl), h3, h4, h5⟩

theorem mdone_any (p : Nat) (w : World) (s : Option (List Int)) (B : Nat) (h : MR w p s B) :
    Calls Try.prog 28 #[.pointer (some ⟨p, 0, none⟩)] w fun e w' => e = .returned (.bool (decide (s = some []))) ∧ w = w' := by
  obtain ⟨v, bs, h1, h2, h3, _⟩ := h
  obtain ⟨_, a, c, rfl, _⟩ := h2
  have f0 := h1.cell 0 rfl
  have f1 := h1.cell 1 rfl
  rcases h3 with rfl | rfl
  · go_enter Try.func28, Try.ntmps28
    go_wp2
    go_ret
    exact ⟨rfl, rfl⟩
  · match bs with
    | [] =>
      go_enter Try.func28, Try.ntmps28
      go_wp2
      go_ret
      exact ⟨by simp, rfl⟩
    | b :: l =>
      have hl : (((b :: l).length : Nat) : Int) ≠ 0 := by simp; omega
      have hl2 : ((((b :: l).length : Nat) : Int) == 0) = false := by simpa using hl
      generalize (b :: l).length = n at *
      go_enter Try.func28, Try.ntmps28
      go_wp2
      go_ret
      exact ⟨by simp, rfl⟩

/-- The Reader is spoilt: Bad alone is stored. -/
theorem MR.spoilt {w : World} {p : Nat} {s : Option (List Int)} {B : Nat} (h : MR w p s B) : MR (w.setCell ⟨p, 1, none⟩ (.bool true)) p none B := by
  obtain ⟨v, bs, h1, h2, h3, h4, h5⟩ := h
  exact ⟨v, bs, h1.set 1 (.bool true), h2.keepA (Mod.setCell (F := fun k => k = p) w ⟨p, 1, none⟩ _ rfl) (fun k hk e => by rw [h5 k hk (by omega)]; rfl), .inl rfl, h4, h5⟩

theorem takeS_none (n : Int) : takeS n none = ([], none) := by
  unfold takeS
  split
  · rename_i h
    have : n.toNat = 0 := by simp at h; omega
    simp
  · rfl

set_option maxHeartbeats 1000000 in
theorem mnum_any (p : Nat) (w : World) (s : Option (List Int)) (B : Nat) (h : MR w p s B) (hr : ∀ b ∈ s.getD [], 0 ≤ b ∧ b < 256) (size : Int) :
    Calls Try.prog 27 #[.pointer (some ⟨p, 0, none⟩), .int .i64 size] w fun e w' =>
      e = .returned (.int .i64 (numR size s).1) ∧ MR w' p (numR size s).2 B ∧ Mod (fun k => k = p) w w' := by
  obtain ⟨i0, hi, hz0, hz1, hz2⟩ := info_parts Oct.info5
  have hsp := h.spoilt
  have hmd : Mod (fun k => k = p) w (w.setCell ⟨p, 1, none⟩ (.bool true)) := Mod.setCell w _ _ rfl
  obtain ⟨v, bs, h1, h2, h3, h4, h5⟩ := h
  have hplt := h1.lt
  obtain ⟨a, c, rfl⟩ : ∃ a c, v = .slice a bs.length c := by obtain ⟨_, a, c, rfl, _⟩ := h2; exact ⟨a, c, rfl⟩
  have f0 := h1.cell 0 rfl
  have f1 := h1.cell 1 rfl
  have g0 := h1.free 0
  have g1 := h1.free 1
  rcases h3 with rfl | rfl
  · have e0 : numR size none = (0, none) := by unfold numR; rw [takeS_none]; split <;> rfl
    rw [e0]
    go_enter Try.func27, Try.ntmps27
    go_wp2
    go_ret
    exact ⟨rfl, hsp, hmd⟩
  · by_cases hok : sizeOk size = true
    · have hs : 1 ≤ size ∧ size ≤ 7 := by simpa [sizeOk] using hok
      by_cases hfit : size ≤ (bs.length : Int)
      · obtain ⟨m, rfl⟩ := Int.eq_ofNat_of_zero_le (show 0 ≤ size by omega)
        have hm : m ≤ bs.length := by omega
        have e0 : numR (m : Int) (some bs) = (undigs 0 (bs.take m), some (bs.drop m)) := by
          simp [numR, hok, takeS, hm]
        rw [e0]
        have r2 := fun wx => run_dropS (P := Try.prog) wx 27 5 i0 1 Try.underlying27 hi hz1 a bs.length c m hm
        have hlt2 : ¬ ((bs.length : Int) < (m : Int)) := by omega
        have hr2 : ∀ b ∈ bs.take m, 0 ≤ b ∧ b < 256 := fun b hb => hr b (by simpa using List.mem_of_mem_take hb)
        have h2d := h2.drop hm
        go_enter Try.func27, Try.ntmps27
        go_wp2_with (go_at_call 41; refine (msize_any _ _).mono ?_; rintro e w' ⟨rfl, rfl⟩)
        go_loop [5, 6] (fun n i => ∃ k : Nat, k ≤ m ∧ i = .int .i64 k ∧ n = .int .i64 (undigs 0 ((bs.take m).take k))) (fun _ i => m - (intOf i).toNat)
        case atStart => exact ⟨0, Nat.zero_le _, rfl, rfl⟩
        case round =>
          obtain ⟨k, hk, rfl, rfl⟩ := hrel
          by_cases hlt : k < m
          · have hkl : k < bs.length := by omega
            have hix := fun wx => run_indexS (P := Try.prog) wx 27 5 i0 1 Try.underlying27 hi hz1 a bs.length c k hkl (h2.some_ (by omega))
            have hcell : w.cell? (elemA a k 1) = some (.int .u8 bs[k]) := h2.elem (by simp [hkl])
            have hb := hr2 bs[k] (by rw [List.mem_take_iff_getElem]; exact ⟨k, by omega, rfl⟩)
            have hkt : k < (bs.take m).length := by rw [List.length_take]; omega
            have hst := undigs_take (bs.take m) k hkt
            rw [List.getElem_take] at hst
            have hp6 := pow256_le ((bs.take m).take k).length (by rw [List.length_take, List.length_take]; omega)
            have hu0 := undigs_nonneg ((bs.take m).take k) 0 (by omega) (fun c hc => hr2 c (List.mem_of_mem_take hc))
            have hu1 := undigs_bound ((bs.take m).take k) 0 (by omega) (fun c hc => hr2 c (List.mem_of_mem_take hc))
            generalize undigs 0 ((bs.take m).take k) = U at *
            have HST := Lib.hid hst
            have hu2 : U < 281474976710656 := by omega
            clear hst hu1 hp6
            go_wp2
            go_round
            case rel => exact ⟨k + 1, hlt, by go_num, by rw [HST.out, or_byte U _ hu0 (by omega) hb.1 hb.2]⟩
            case measure => simp [intOf]; omega
          · obtain rfl : k = m := by omega
            go_wp2
            go_ret
            have hkeep := h2d.keepA (Mod.setCell (F := fun x => x = p) w ⟨p, 0, none⟩ (.slice (dropA a c k 1) (bs.length - k) (c - k)) rfl) (fun x hx e => by
              have hown : (Value.slice a bs.length c).ownBlock = some x := by rw [← hx]; exact (dropA_own a c k 1 _ _ _ _).symm
              rw [h5 x hown (by omega)]; simp)
            refine ⟨by rw [List.take_take, Nat.min_self]; rfl, ⟨.slice (dropA a c k 1) (bs.length - k) (c - k), bs.drop k, h1.set 0 _, ?_, .inr rfl, h4, ?_⟩, Mod.setCell w _ _ rfl⟩
            · simpa [List.map_drop] using hkeep
            · intro x hx hBx
              have hown : (Value.slice a bs.length c).ownBlock = some x := by rw [← hx]; exact (dropA_own a c k 1 _ _ _ _).symm
              rw [h5 x hown hBx]; simp
      · have e0 : numR size (some bs) = (0, none) := by
          simp only [numR, hok, if_true, takeS, Option.getD_some]
          rw [if_neg (by omega)]; rfl
        rw [e0]
        have hlt2 : (bs.length : Int) < size := by omega
        go_enter Try.func27, Try.ntmps27
        go_wp2_with (go_at_call 41; refine (msize_any _ _).mono ?_; rintro e w' ⟨rfl, rfl⟩)
        go_ret
        exact ⟨rfl, hsp, hmd⟩
    · simp only [Bool.not_eq_true] at hok
      have e0 : numR size (some bs) = (0, none) := by simp [numR, hok]
      rw [e0]
      go_enter Try.func27, Try.ntmps27
      go_wp2_with (go_at_call 41; refine (msize_any _ _).mono ?_; rintro e w' ⟨rfl, rfl⟩)
      go_ret
      exact ⟨rfl, hsp, hmd⟩

end Go.Proofs.Ytdccpikddhpleaa
namespace Go.Proofs.Ytdccpikddhpleaa
open Go.RowKit Mile
set_option maxRecDepth 100000

set_option maxHeartbeats 1000000 in
theorem mraw_any (p : Nat) (w : World) (s : Option (List Int)) (B : Nat) (h : MR w p s B) (n : Int) (hbd : (s.getD []).length ≤ 1000000000) :
    Calls Try.prog 26 #[.pointer (some ⟨p, 0, none⟩), .int .i64 n] w fun e w' =>
      ∃ v', e = .returned v' ∧ Fresh w' w.heap.size v' (takeS n s).1 ∧ MR w' p (takeS n s).2 B ∧ Mod (fun k => k = p) w w' := by
  obtain ⟨i0, hi, hz0, hz1, hz2⟩ := info_parts Oct.info5
  have hsp := h.spoilt
  have hmd : Mod (fun k => k = p) w (w.setCell ⟨p, 1, none⟩ (.bool true)) := Mod.setCell w _ _ rfl
  obtain ⟨v, bs, h1, h2, h3, h4, h5⟩ := h
  have hplt := h1.lt
  obtain ⟨a, c, rfl⟩ : ∃ a c, v = .slice a bs.length c := by obtain ⟨_, a, c, rfl, _⟩ := h2; exact ⟨a, c, rfl⟩
  have hcap : bs.length ≤ c := by obtain ⟨_, a', c', he, hc, _⟩ := h2; cases he; exact hc
  have f0 := h1.cell 0 rfl
  have f1 := h1.cell 1 rfl
  have g0 := h1.free 0
  have g1 := h1.free 1
  have hfn : Fresh (w.setCell ⟨p, 1, none⟩ (.bool true)) w.heap.size (.slice none 0 0) [] := World.ownsRow_nil _ _ _ _
  rcases h3 with rfl | rfl
  · rw [takeS_none]
    go_enter Try.func26, Try.ntmps26
    go_wp2
    go_ret
    exact ⟨_, rfl, hfn, hsp, hmd⟩
  · by_cases hb : 0 ≤ n ∧ n ≤ (bs.length : Int)
    · obtain ⟨m, rfl⟩ := Int.eq_ofNat_of_zero_le hb.1
      have hm : m ≤ bs.length := by omega
      have e0 : takeS (m : Int) (some bs) = (bs.take m, some (bs.drop m)) := by simp [takeS, hm]
      rw [e0]
      have r1 := fun wx => run_takeS (P := Try.prog) wx 27 5 i0 Try.underlying27 hi a bs.length c m (by omega)
      have r2 := fun wx => run_dropS (P := Try.prog) wx 27 5 i0 1 Try.underlying27 hi hz1 a bs.length c m hm
      have hbd' : bs.length ≤ 1000000000 := hbd
      have hlt2 : ¬ ((bs.length : Int) < (m : Int)) := by omega
      have h2d := h2.drop hm
      have h2t : Rd w 1 (.slice a m c) m ((bs.take m).map (Value.int .u8)) := by have := h2.take hm; simpa [List.map_take] using this
      have hown : (w.alloc (.cells #[] 5)).ownsRow 0 5 1 (.slice (some ⟨w.heap.size, 0, none⟩) 0 0) 0 [] := World.ownsRow_made w #[] 0 (Nat.zero_le _) (Nat.zero_le _) rfl
      have h1c : ∀ u ∈ (bs.take m).map (Value.int .u8), u.oneCell' = true := by intro u hu; obtain ⟨x, _, rfl⟩ := List.mem_map.1 hu; rfl
      have hm1 : 0 + m ≤ maxLen := by unfold maxLen; omega
      have hm2 : (0 + m) * 1 ≤ 140737488355328 := by omega
      go_enter Try.func26, Try.ntmps26
      go_wp2_with (at_builtin; go_loud (refine wpList_append_any rfl (.tmp 26) (.tmp 32) 27 rfl 5 i0 (.int .u8 0) 1 1 Try.underlying27 hi hz0 hz1 hz2 rfl (by decide) _ 0 [] rfl hown _ m ((bs.take m).map (Value.int .u8)) rfl (h2t.alloc _) h1c hm1 hm2 ?_); intro v' w1 hap; obtain ⟨a1, k1, rfl⟩ := hap.form; have hbk : Blk w1 p 74 [.slice a bs.length c, .bool false] := (h1.alloc _).keep hap.mod (fun e => by have e' : w.heap.size = p := Option.some.inj e; omega); have f0' := hbk.cell 0 rfl; have g0' := hbk.free 0)
      go_ret
      have ho := hap.own
      simp only [Nat.zero_add, List.nil_append] at ho
      have hfr : w1.ownsRow w.heap.size 5 1 (.slice a1 (0 + m) k1) m ((bs.take m).map (Value.int .u8)) := by
        refine Own.rebase (by simpa using ho) (fun k hk => ?_)
        rcases hap.row k hk with h | h
        · have e : w.heap.size = k := Option.some.inj h
          omega
        · have e : (w.alloc (.cells #[] 5)).heap.size = w.heap.size + 1 := by simp
          omega
      have hmod1 : Mod (fun k => k = p) w w1 := (Mod.alloc _ w _).trans hap.mod (fun _ _ e => e) (fun i hi e => by have e' : w.heap.size = i := Option.some.inj e; omega)
      have hmodF : Mod (fun k => w.heap.size ≤ k) w w1 := (Mod.alloc _ w _).trans hap.mod (fun _ _ e => e) (fun i hi e => by have e' : w.heap.size = i := Option.some.inj e; omega)
      refine ⟨.slice a1 m k1, by simp, ?_, ⟨.slice (dropA a c m 1) (bs.length - m) (c - m), bs.drop m, hbk.set 0 _, ?_, .inr rfl, h4, ?_⟩, hmod1.thenSet ⟨p, 0, none⟩ _ (fun _ => rfl)⟩
      · have hl : (bs.take m).length = m := by rw [List.length_take]; omega
        unfold Fresh
        rw [hl]
        have := Own.keep hfr (Mod.setCell (F := fun x => x = p) w1 ⟨p, 0, none⟩ (.slice (dropA a c m 1) (bs.length - m) (c - m)) rfl) (fun k hk e => by have := (hfr.lt k hk).1; omega)
        simpa using this
      · have hk1 := h2d.keepA hmodF (fun x hx e => by
          have hownx : (Value.slice a bs.length c).ownBlock = some x := by rw [← hx]; exact (dropA_own a c m 1 _ _ _ _).symm
          have := h2.lt hownx e
          simp at this; rw [this]; simp)
        have hk2 := hk1.keepA (Mod.setCell (F := fun x => x = p) w1 ⟨p, 0, none⟩ (.slice (dropA a c m 1) (bs.length - m) (c - m)) rfl) (fun x hx e => by
          have hownx : (Value.slice a bs.length c).ownBlock = some x := by rw [← hx]; exact (dropA_own a c m 1 _ _ _ _).symm
          rw [h5 x hownx (by omega)]; simp)
        simpa [List.map_drop] using hk2
      · intro x hx hBx
        have hownx : (Value.slice a bs.length c).ownBlock = some x := by rw [← hx]; exact (dropA_own a c m 1 _ _ _ _).symm
        rw [h5 x hownx hBx]; simp
    · have e0 : takeS n (some bs) = ([], none) := by unfold takeS; rw [if_neg (by simpa using hb)]
      rw [e0]
      by_cases hn : n < 0
      · go_enter Try.func26, Try.ntmps26
        go_wp2
        go_ret
        exact ⟨_, rfl, hfn, hsp, hmd⟩
      · have hn2 : (bs.length : Int) < n := by omega
        go_enter Try.func26, Try.ntmps26
        go_wp2
        go_ret
        exact ⟨_, rfl, hfn, hsp, hmd⟩

end Go.Proofs.Ytdccpikddhpleaa
namespace Go.Proofs.Ytdccpikddhpleaa
open Go.RowKit Mile
set_option maxRecDepth 100000
/-- A row that append may take: the call's own, or a full one that can be read, whatever marks it bears. -/
def OwnF (w : World) (v : Value) (n : Nat) (xs : List Value) : Prop := w.ownsRow 0 5 1 v n xs ∨ ∃ g, v = .slice (some ⟨g, 0, none⟩) n n ∧ Rd w 1 v n xs ∧ g < w.heap.size
theorem OwnF.keep {F : Nat → Prop} {w w' : World} {v : Value} {n : Nat} {xs : List Value} (h : OwnF w v n xs) (hm : Mod F w w') (hb : ∀ k, v.ownBlock = some k → ¬ F k) : OwnF w' v n xs := by
  rcases h with h | ⟨g, e, h, hl⟩
  · exact .inl (Own.keep h hm hb)
  · exact .inr ⟨g, e, h.keep hm hb, Nat.lt_of_lt_of_le hl hm.size⟩
theorem OwnF.alloc {w : World} {v : Value} {n : Nat} {xs : List Value} (h : OwnF w v n xs) (o : Obj) : OwnF (w.alloc o) v n xs := h.keep (Mod.alloc (fun _ => False) w o) (fun _ _ e => e)
theorem OwnF.drew {w : World} {v : Value} {n : Nat} {xs : List Value} (h : OwnF w v n xs) : OwnF w.drew v n xs := h.keep (Mod.drew (fun _ => False) w) (fun _ _ e => e)
theorem OwnF.rd {w : World} {v : Value} {n : Nat} {xs : List Value} (h : OwnF w v n xs) : Rd w 1 v n xs := by
  rcases h with h | ⟨g, e, h, _⟩
  · exact Rd.ofOwn h
  · exact h
theorem run_append_full {P : Program} (w : World) (t ty e : TypeId) (i : TypeInfo) (z : Value) (size bytes : Nat) (ht : P.underlying t = some (.slice e)) (hi : P.info? e = some i) (hz : i.zero = some z)
    (hsize : i.size = size) (hby : i.bytes = bytes) (hzs : z.cells.size = size) (hsz : 0 < size)
    (g n : Nat) (xs : List Value) (hr : Rd w size (.slice (some ⟨g, 0, none⟩) n n) n xs)
    (x : Value) (m : Nat) (news : List Value) (hx : Rd w size x m news) (h1 : ∀ u ∈ news, u.oneCell' = true) (hm0 : 0 < m)
    (h63 : n + m ≤ maxLen) (hbytes : (n + m) * bytes ≤ 140737488355328) :
    ∃ v' w', (Builtin.append_ #[t, t] ty #[.slice (some ⟨g, 0, none⟩) n n, x]).run P w = .ok v' w' ∧ Appended w w' e size (.slice (some ⟨g, 0, none⟩) n n) v' (n + m) (xs ++ news) := by
  obtain ⟨hl, a, c, rfl, hmc, hcm, hnone, hcell⟩ := hx
  obtain ⟨hl0, a0, c0, he0, _, _, _, hcell0⟩ := hr
  cases he0
  cases a with
  | none => have := (hnone rfl).1; omega
  | some ad =>
    obtain ⟨_, hc⟩ := hcell ad rfl
    obtain ⟨_, hc0⟩ := hcell0 _ rfl
    obtain ⟨v2, w2, hr2, ho2, hg2⟩ := run_append_arg_grows (P := P) w t ty e i z size bytes ht hi hz hsize hby hzs hsz ⟨g, 0, none⟩ n n xs hl0 hc0 ad m c news hl hc (by omega) h63 hbytes
    exact ⟨v2, w2, hr2, Own.base ho2 (Nat.zero_le _), (Mod.ofGrown hg2).mono (fun k _ h => by cases h), fun k hk => .inr (ho2.lt k hk).1, own_form ho2, fun _ _ _ _ _ => (Mod.ofGrown hg2).mono (fun k _ h => by cases h)⟩
theorem step_append_anyF {P : Program} {ops : Array Oper} {o : Oper} {a : Act} {w : World} {K : Act → World → Prop} {Q : Exit → Act → World → Prop} {E : Prop} (hgd : o.guard = none) (s x : Operand) (t : TypeId)
    (ho : o.op = .call { callee := .builtin .append, args := #[s, x], argTypes := #[t, t] })
    (i : TypeInfo) (z : Value) (bytes : Nat) (ht : P.underlying t = some (.slice 5)) (hi : P.info? 5 = some i) (hz : i.zero = some z)
    (hsize : i.size = 1) (hby : i.bytes = bytes) (hzs : z.cells.size = 1)
    (v : Value) (n : Nat) (xs : List Value) (hs : a.eval s = v) (hown : OwnF w v n xs)
    (xv : Value) (m : Nat) (news : List Value) (hx : a.eval x = xv) (hrd : Rd w 1 xv m news) (h1 : ∀ u ∈ news, u.oneCell' = true) (hm0 : 0 < m)
    (h63 : n + m ≤ maxLen) (hbytes : (n + m) * bytes ≤ 140737488355328)
    (h : ∀ v' w', Appended w w' 5 1 v v' (n + m) (xs ++ news) → K (a.put o.dst v') w') : if Region.wanted o (yielded ops a.tmps) = true then Oper.wp P o a w K Q else E := by
  rcases hown with hown | ⟨g, rfl, hr, _⟩
  · exact step_append_any hgd s x t ho _ i z 1 bytes ht hi hz hsize hby hzs (by decide) v n xs hs hown xv m news hx hrd h1 h63 hbytes h
  · have hw : Region.wanted o (yielded ops a.tmps) = true := by simp [Region.wanted, hgd]
    rw [if_pos hw]
    obtain ⟨v', w', hrun, hap⟩ := run_append_full (P := P) w t o.type _ i z 1 bytes ht hi hz hsize hby hzs (by decide) g n xs hr xv m news hrd h1 hm0 h63 hbytes
    unfold Oper.wp
    simp [execOp, ho, resolve, invoke, builtin, hs, hx, hrun, Result.andThen]
    exact h v' w' hap
/-- A milepostref1.Writer at block p: its bytes, and whether it is spoilt. F: the blocks that are its own. -/
def MF (w : World) (p : Nat) (bad : Bool) (bs : List Int) (F : Nat → Prop) : Prop :=
  ∃ v, Blk w p 68 [v, .bool bad] ∧ OwnF w v bs.length (bs.map (Value.int .u8)) ∧ F p ∧ (∀ k, v.ownBlock = some k → F k ∧ k ≠ p) ∧ (∀ k, F k → k < w.heap.size)

theorem MF.keep {w w' : World} {p : Nat} {bad : Bool} {bs : List Int} {F G : Nat → Prop} (h : MF w p bad bs F) (hm : Mod G w w') (hd : ∀ k, F k → ¬ G k) : MF w' p bad bs F := by
  obtain ⟨v, h1, h2, h3, h4, h5⟩ := h
  exact ⟨v, h1.keep hm (hd p h3), OwnF.keep h2 hm (fun k hk => hd k (h4 k hk).1), h3, h4, fun k hk => Nat.lt_of_lt_of_le (h5 k hk) hm.size⟩
theorem MF.lt {w : World} {p : Nat} {bad : Bool} {bs : List Int} {F : Nat → Prop} (h : MF w p bad bs F) : ∀ k, F k → k < w.heap.size := by obtain ⟨_, _, _, _, _, h5⟩ := h; exact h5
theorem MF.self {w : World} {p : Nat} {bad : Bool} {bs : List Int} {F : Nat → Prop} (h : MF w p bad bs F) : F p := by obtain ⟨_, _, _, h3, _⟩ := h; exact h3
theorem MF.drew {w : World} {p : Nat} {bad : Bool} {bs : List Int} {F : Nat → Prop} (h : MF w p bad bs F) : MF w.drew p bad bs F := h.keep (Mod.drew (fun _ => False) w) (fun _ _ e => e)
theorem MF.alloc {w : World} {p : Nat} {bad : Bool} {bs : List Int} {F : Nat → Prop} (h : MF w p bad bs F) (o : Obj) : MF (w.alloc o) p bad bs F := h.keep (Mod.alloc (fun _ => False) w o) (fun _ _ e => e)

theorem MF.setBad {w : World} {p : Nat} {bad : Bool} {bs : List Int} {F : Nat → Prop} (h : MF w p bad bs F) (b : Bool) : MF (w.setCell ⟨p, 1, none⟩ (.bool b)) p b bs F := by
  obtain ⟨v, h1, h2, h3, h4, h5⟩ := h
  exact ⟨v, h1.set 1 (.bool b), OwnF.keep h2 (Mod.setCell (F := fun k => k = p) w ⟨p, 1, none⟩ _ rfl) (fun k hk e => (h4 k hk).2 e), h3, h4, fun k hk => by simpa using h5 k hk⟩

/-- Behind an append that is stored into it. -/
theorem MF.pushed {w w0 w' : World} {p : Nat} {bad : Bool} {bs new : List Int} {v v' : Value} {F : Nat → Prop} {n' : Nat} (h1 : Blk w p 68 [v, .bool bad]) (h3 : F p) (h4 : ∀ k, v.ownBlock = some k → F k ∧ k ≠ p) (hm : Mod (fun _ => False) w w0)
    (hap : Appended w0 w' 5 1 v v' n' (bs.map (Value.int .u8) ++ new.map (Value.int .u8))) :
    ∃ F', MF (w'.setCell ⟨p, 0, none⟩ v') p bad (bs ++ new) F' ∧ After w (w'.setCell ⟨p, 0, none⟩ v') F F' := by
  have hlen : n' = (bs ++ new).length := by have := hap.own.1; simp at this; simp [this]
  have hm2 := hap.mod
  have hpv : v'.ownBlock ≠ some p := by
    intro e
    rcases hap.row p e with h | h
    · exact (h4 p h).2 rfl
    · have := h1.lt; have := hm.size; omega
  have hb : Blk w' p 68 [v, .bool bad] := (h1.keep hm (fun e => e)).keep hm2 (fun e => (h4 p e).2 rfl)
  subst hlen
  refine ⟨fun k => k = p ∨ v'.ownBlock = some k, ⟨v', hb.set 0 v', ?_, .inl rfl, fun k hk => ⟨.inr hk, fun e => hpv (e ▸ hk)⟩, ?_⟩, ?_, ?_⟩
  · have ho := Own.keep hap.own (Mod.setCell (F := fun k => k = p) w' ⟨p, 0, none⟩ v' rfl) (fun k hk e => hpv (e ▸ hk))
    exact .inl (by simpa using ho)
  · rintro k (rfl | hk)
    · simpa using hb.lt
    · simpa using Own.lt hap.own hk
  · exact ((hm.trans hm2 (H := F) (fun _ _ e => e.elim) (fun i _ e => (h4 i e).1))).thenSet _ _ (fun _ => h3)
  · rintro k (rfl | hk)
    · exact .inl h3
    · rcases hap.row k hk with h | h
      · exact .inl (h4 k h).1
      · exact .inr (Nat.le_trans hm.size h)

/-- What one number does to it. -/
def mNum6 (size n : Int) (m : Bool × List Int) : Bool × List Int := if sizeOk size && fits size.toNat n then (m.1, m.2 ++ digs n size.toNat) else (true, m.2)

set_option maxHeartbeats 1000000 in
theorem mnumF_any (p : Nat) (w : World) (bad : Bool) (bs : List Int) (F : Nat → Prop) (h : MF w p bad bs F) (size n : Int) (hbd : bs.length ≤ 1000000) :
    Calls Try.prog 22 #[.pointer (some ⟨p, 0, none⟩), .int .i64 size, .int .i64 n] w fun e w' => e = .returned (.tuple #[]) ∧ ∃ F', MF w' p (mNum6 size n (bad, bs)).1 (mNum6 size n (bad, bs)).2 F' ∧ After w w' F F' := by
  obtain ⟨i0, hi, hz0, hz1, hz2⟩ := info_parts Oct.info5
  have hsb := h.setBad true
  have hmb : After w (w.setCell ⟨p, 1, none⟩ (.bool true)) F F := ⟨Mod.setCell w _ _ h.self, fun _ e => .inl e⟩
  have h0 := h
  obtain ⟨v, h1, h2, h3, h4, h5⟩ := h
  have hp := h5 p h3
  have c1 := h1.cell 1 rfl
  have d1 := h1.free 1
  by_cases hok : sizeOk size = true
  · have hs : 1 ≤ size ∧ size ≤ 7 := by simpa [sizeOk] using hok
    obtain ⟨hs1, hs2⟩ := hs
    by_cases hf : fits size.toNat n = true
    · have e0 : mNum6 size n (bad, bs) = (bad, bs ++ digs n size.toNat) := by simp [mNum6, hok, hf]
      rw [e0]
      have hn0 : 0 ≤ n := by simp [fits] at hf; exact hf.1
      have hz : (n / 2 ^ (8 * size).toNat != 0) = false := by
        have := shift_zero size.toNat n hn0
        rw [hf, show 8 * size.toNat = (8 * size).toNat by omega] at this
        simpa using this
      clear c1 d1 h1 h2 h4 h5
      go_enter Try.func22, Try.ntmps22
      go_wp2_with (go_at_call 41; refine (msize_any _ _).mono ?_; rintro e w' ⟨rfl, rfl⟩)
      go_loopw [6] (fun i wr => ∃ (j : Nat) (P : List Int) (Fj : Nat → Prop), (j : Int) ≤ size ∧ i = .int .i64 ((j : Int) - 1) ∧ MF wr p bad (bs ++ P) Fj ∧ After w wr F Fj ∧ P ++ digs n j = digs n size.toNat)
        (fun i _ => (intOf i + 1).toNat)
      case atStart => exact ⟨size.toNat, [], F, by omega, by rw [Int.toNat_of_nonneg (by omega)], by simpa using h0, After.refl _ _, by simp⟩
      case round =>
        obtain ⟨j, P, Fj, hj, rfl, hWj, hAj, hD⟩ := hrel
        by_cases hj0 : 1 ≤ j
        · obtain ⟨a, rfl⟩ : ∃ a, j = a + 1 := ⟨j - 1, by omega⟩
          have e1 : ((a + 1 : Nat) : Int) - 1 = (a : Int) := by omega
          rw [e1]
          clear e1
          have ha1 : (a : Int) < 7 := by omega
          obtain ⟨v, h1, h2, h3, h4, h5⟩ := hWj
          have hpp := h5 p h3
          have c0 : wr.cell? ⟨p, 0, none⟩ = some v := h1.cell 0 rfl
          have d0 := h1.free 0
          have e8 : IntKind.i64.wrap (8 * (a : Int)) = 8 * (a : Int) := IntWalk.i64_in _ (by omega)
          have hPl : P.length ≤ 7 := by have := congrArg List.length hD; simp [digs_length] at this; omega
          have hm1 : (bs ++ P).length + 1 ≤ maxLen := by simp; unfold maxLen; omega
          have hm2 : ((bs ++ P).length + 1) * 1 ≤ 140737488355328 := by simp; omega
          go_wp2_with fail
          go_region_law (
            refine step_append_anyF rfl (.tmp 34) (.tmp 40) 27 rfl i0 (.int .u8 0) 1 Try.underlying27 hi hz0 hz1 hz2 rfl v (bs ++ P).length ((bs ++ P).map (Value.int .u8)) (by simp [Act.eval]) (by exact ((h2.alloc _).drew))
              (.slice (some ⟨wr.heap.size, 0, none⟩) 1 1) 1 [.int .u8 (IntKind.u8.wrap (n / 2 ^ (8 * (a : Int)).toNat))] (by simp [Act.eval]) (by exact (Rd.one wr _ _).drew) (by simp [Value.oneCell']) (by decide) hm1 hm2 ?_
            intro v' w' hap
            obtain ⟨a1, k1, rfl⟩ := hap.form
            have hb1 : Blk w' p 68 [v, .bool bad] := (h1.alloc _).drew.keep hap.mod (fun e => (h4 p e).2 rfl)
            have c1' : w'.cell? ⟨p, 0, none⟩ = some v := hb1.cell 0 rfl
            have d1' := hb1.free 0)
          all_goals
            go_wp2
            go_roundw
            case rel =>
              obtain ⟨F', hW', hA'⟩ := MF.pushed (new := [IntKind.u8.wrap (n / 2 ^ (8 * (a : Int)).toNat)]) h1 h3 h4 (((Mod.refl _ _).thenAlloc _).thenDrew) hap
              have hx : IntKind.u8.wrap (n / 2 ^ (8 * (a : Int)).toNat) = n / 2 ^ (8 * a) % 256 := by
                rw [show (8 * (a : Int)).toNat = 8 * a by omega]; rfl
              rw [hx] at hW'
              simp only [List.length_append] at hA' hW'
              refine ⟨a, P ++ [n / 2 ^ (8 * a) % 256], F', by omega, rfl, ?_, hAj.trans hA', by simpa [digs] using hD⟩
              simpa using hW'
            case measure => simp [intOf]
        · obtain rfl : j = 0 := by omega
          go_wp2
          go_end0
          have hP : P = digs n size.toNat := by simpa [digs] using hD
          subst hP
          exact ⟨rfl, Fj, hWj, hAj⟩
    · have e0 : mNum6 size n (bad, bs) = (true, bs) := by simp [mNum6, hf]
      rw [e0]
      by_cases hn0 : 0 ≤ n
      · have hz : (n / 2 ^ (8 * size).toNat != 0) = true := by
          have := shift_zero size.toNat n hn0
          simp only [Bool.not_eq_true] at hf
          rw [hf, show 8 * size.toNat = (8 * size).toNat by omega] at this
          simpa using this
        go_enter Try.func22, Try.ntmps22
        go_wp2_with (go_at_call 41; refine (msize_any _ _).mono ?_; rintro e w' ⟨rfl, rfl⟩)
        refine bodyPost_ret (results_none rfl _ _ _) rfl ?_
        exact ⟨rfl, F, hsb, hmb⟩
      · go_enter Try.func22, Try.ntmps22
        go_wp2_with (go_at_call 41; refine (msize_any _ _).mono ?_; rintro e w' ⟨rfl, rfl⟩)
        refine bodyPost_ret (results_none rfl _ _ _) rfl ?_
        exact ⟨rfl, F, hsb, hmb⟩
  · simp only [Bool.not_eq_true] at hok
    have e0 : mNum6 size n (bad, bs) = (true, bs) := by simp [mNum6, hok]
    rw [e0]
    go_enter Try.func22, Try.ntmps22
    go_wp2_with (go_at_call 41; refine (msize_any _ _).mono ?_; rintro e w' ⟨rfl, rfl⟩)
    refine bodyPost_ret (results_none rfl _ _ _) rfl ?_
    exact ⟨rfl, F, hsb, hmb⟩

end Go.Proofs.Ytdccpikddhpleaa
namespace Go.Proofs.Ytdccpikddhpleaa
open Go.RowKit Mile
set_option maxRecDepth 100000
theorem digs4 (x : Int) : digs x 4 = [x / 16777216 % 256, x / 65536 % 256, x / 256 % 256, x % 256] := by
  show [x / 2 ^ (8 * 3) % 256, x / 2 ^ (8 * 2) % 256, x / 2 ^ (8 * 1) % 256, x / 2 ^ (8 * 0) % 256] = _
  simp
set_option maxHeartbeats 4000000 in
theorem summed_any (w : World) (a : Option Addr) (n c : Nat) (hd : List Int) (hn : hd.length = n) (hr : Rd w 1 (.slice a n c) n (hd.map (Value.int .u8))) (hb : ∀ x ∈ hd, 0 ≤ x ∧ x < 256) (hs : n ≤ 100000) :
    Calls Try.prog 23 #[.slice a n c] w fun e w' => ∃ a' c', e = .returned (.slice a' (n + 4) c') ∧ w'.ownsRow w.heap.size 5 1 (.slice a' (n + 4) c') (n + 4) ((frL hd).map (Value.int .u8)) ∧ Mod (fun _ => False) w w' := by
  obtain ⟨i0, hi, hz0, hz1, hz2⟩ := info_parts Chk.info5
  obtain ⟨sm, hsm⟩ : ∃ sm, (csum hd).toNat = sm := ⟨_, rfl⟩
  have hlt := (csum hd).isLt
  rw [hsm] at hlt
  have hlt2 : sm < 4294967296 := by simpa using hlt
  have hfr : (hd ++ [(sm : Int) / 16777216, (sm : Int) / 65536 % 256, (sm : Int) / 256 % 256, (sm : Int) % 256]) = frL hd := by
    unfold frL; rw [digs4, hsm, show (sm : Int) / 16777216 % 256 = (sm : Int) / 16777216 by omega]
  have HFR := Lib.hid hfr
  have HSM := Lib.hid hsm
  have HN := Lib.hid hn
  clear hlt hsm hfr hn
  have h1c : ∀ u ∈ hd.map (Value.int .u8), u.oneCell' = true := by intro u hu; simp at hu; obtain ⟨x, _, rfl⟩ := hu; rfl
  have h1d : ∀ u ∈ [Value.int .u8 ((sm : Int) / 16777216), .int .u8 ((sm : Int) / 65536 % 256), .int .u8 ((sm : Int) / 256 % 256), .int .u8 ((sm : Int) % 256)], u.oneCell' = true := by simp [Value.oneCell']
  have hap1 : 0 + n ≤ maxLen := by unfold maxLen; omega
  have hap2 : (0 + n) * 1 ≤ 140737488355328 := by omega
  have hap3 : n + 4 ≤ maxLen := by unfold maxLen; omega
  have hap4 : (n + 4) * 1 ≤ 140737488355328 := by omega
  go_enter Try.func23, Try.ntmps23
  go_wp2_with fail
  refine (rsum_any a n c hd _ hr hb).mono ?_
  rw [HSM.out]
  rintro e w1 ⟨rfl, hw1⟩
  subst hw1
  go_wp2_with (first
    | (at_builtin; refine wpList_append_any rfl (.tmp 6) (.tmp 7) 27 rfl 5 i0 (.int .u8 0) 1 1 Try.underlying27 hi hz0 hz1 hz2 rfl (by decide) _ 0 [] rfl (own_empty _ _ _ _ (by simp)) _ n (hd.map (Value.int .u8)) rfl (hr.alloc _) h1c hap1 hap2 ?_; intro v4 w4 hap; obtain ⟨a4, c4, rfl⟩ := hap.form; have ho4 := hap.own; have hl4 := hap.low (B := w.heap.size) (by simp) (low_lit (Nat.le_refl _)); have hm4 := hap.modOld (Mod.alloc (fun _ => False) w _) (low_lit (Nat.le_refl _)); simp only [Nat.zero_add, List.nil_append] at ho4 hl4; clear hap)
    | (at_builtin; refine wpList_append_any rfl (.tmp 8) (.tmp 20) 27 rfl 5 i0 (.int .u8 0) 1 1 Try.underlying27 hi hz0 hz1 hz2 rfl (by decide) _ n _ rfl (World.ownsRow.alloc ho4 _) _ 4 [.int .u8 ((sm : Int) / 16777216), .int .u8 ((sm : Int) / 65536 % 256), .int .u8 ((sm : Int) / 256 % 256), .int .u8 ((sm : Int) % 256)] rfl (Rd.lit _ [.int .u8 ((sm : Int) / 16777216), .int .u8 ((sm : Int) / 65536 % 256), .int .u8 ((sm : Int) / 256 % 256), .int .u8 ((sm : Int) % 256)] _ _ 4 rfl rfl (by omega)) h1d hap3 hap4 ?_; intro v5 w5 hap; obtain ⟨a5, c5, rfl⟩ := hap.form; have ho5 := hap.own; have hl5 := Lib.hid (hap.low (B := w.heap.size) (by have := hm4.size; simp; omega) hl4); have hm5 := Lib.hid (hap.modOld (hm4.thenAlloc _) hl4); clear hap ho4 hm4 hl4; rw [show hd.map (Value.int .u8) ++ [Value.int .u8 ((sm : Int) / 16777216), .int .u8 ((sm : Int) / 65536 % 256), .int .u8 ((sm : Int) / 256 % 256), .int .u8 ((sm : Int) % 256)] = (frL hd).map (Value.int .u8) by rw [← HFR.out]; simp] at ho5; have HO5 := Lib.hid ho5; clear ho5))
  go_ret
  exact ⟨a5, c5, rfl, Own.rebase HO5.out hl5.out, hm5.out⟩

end Go.Proofs.Ytdccpikddhpleaa
namespace Go.Proofs.Ytdccpikddhpleaa
open Go.RowKit Mile
set_option maxRecDepth 100000
def rdsL {α : Type} (rd : RS → α × RS) : Nat → RS → List α × RS
  | 0, s => ([], s)
  | n + 1, s => ((rd s).1 :: (rdsL rd n (rd s).2).1, (rdsL rd n (rd s).2).2)
theorem rdsL_snoc {α : Type} (rd : RS → α × RS) : ∀ (n : Nat) (s : RS), rdsL rd (n + 1) s = ((rdsL rd n s).1 ++ [(rd (rdsL rd n s).2).1], (rd (rdsL rd n s).2).2)
  | 0, s => rfl
  | n + 1, s => by
    have h := rdsL_snoc rd n (rd s).2
    rw [rdsL, h]
    rfl
theorem rdsL_len {α : Type} (rd : RS → α × RS) : ∀ (n : Nat) (s : RS), (rdsL rd n s).1.length = n
  | 0, s => rfl
  | n + 1, s => by rw [rdsL]; simp [rdsL_len rd n]
theorem rdsL_rg {α : Type} (rd : RS → α × RS) (hrd : ∀ s, RgS s → RgS (rd s).2) : ∀ (n : Nat) (s : RS), RgS s → RgS (rdsL rd n s).2
  | 0, s, h => h
  | n + 1, s, h => rdsL_rg rd hrd n _ (hrd s h)
theorem rdsL_app {α : Type} (rd : RS → α × RS) (f : α → List Int) : ∀ (l : List α) (r : List Int), (∀ x ∈ l, ∀ r, rd (some (f x ++ r)) = (x, some r)) → rdsL rd l.length (some (l.flatMap f ++ r)) = (l, some r)
  | [], r, _ => by simp [rdsL]
  | x :: l, r, h => by
    rw [List.flatMap_cons, List.append_assoc, List.length_cons, rdsL, h x (by simp)]
    show (x :: (rdsL rd l.length (some (l.flatMap f ++ r))).1, (rdsL rd l.length (some (l.flatMap f ++ r))).2) = _
    rw [rdsL_app rd f l r (fun y hy => h y (by simp [hy]))]
def rN (b : List Int) := rdsL rdNode (numR 2 (pS1 b)).1.toNat (pS4 b)
def rE (b : List Int) := rdsL rdEdge (numR 2 (pS2 b)).1.toNat (rN b).2
def rB (b : List Int) := rdsL rdNode (numR 2 (pS3 b)).1.toNat (rE b).2
def refG (b : List Int) : GD := ⟨(rN b).1, (rE b).1, (rB b).1⟩
theorem read_file (G : GD) (h : May G) : refG (fileG G) = G ∧ (takeS 4 (some (fileG G))).1 = [77, 73, 76, 69] ∧ (numR 2 (pS1 (fileG G))).1 = G.N.length ∧ (numR 2 (pS2 (fileG G))).1 = G.E.length ∧ (numR 2 (pS3 (fileG G))).1 = G.B.length ∧ (numR 4 (rB (fileG G)).2).2 = some [] := by
  obtain ⟨T, hT⟩ : ∃ T, digs (csum (ahG G)).toNat 4 = T := ⟨_, rfl⟩
  have e : fileG G = [77, 73, 76, 69] ++ (digs (G.N.length : Int) 2 ++ (digs (G.E.length : Int) 2 ++ (digs (G.B.length : Int) 2 ++ (G.N.flatMap nodeB ++ (G.E.flatMap edgeB ++ (G.B.flatMap nodeB ++ T)))))) := by
    unfold fileG
    rw [hT]
    unfold ahG hdG nb2
    simp only [List.flatMap_cons, List.flatMap_nil, List.append_assoc, List.append_nil]
  have h1 : G.N.length < 65536 := by have := h.1.1.2; omega
  have h2 : G.E.length < 65536 := by have := h.1.2.1; omega
  have h3 : G.B.length < 65536 := by have := h.1.2.2; omega
  have s1 : pS1 (fileG G) = some (digs (G.N.length : Int) 2 ++ (digs (G.E.length : Int) 2 ++ (digs (G.B.length : Int) 2 ++ (G.N.flatMap nodeB ++ (G.E.flatMap edgeB ++ (G.B.flatMap nodeB ++ T)))))) := by
    unfold pS1 takeS
    rw [e, if_pos (by simp only [Option.getD_some, List.length_append, List.length_cons]; omega)]
    rfl
  have n1 := numR2_app (G.N.length : Int) (digs (G.E.length : Int) 2 ++ (digs (G.B.length : Int) 2 ++ (G.N.flatMap nodeB ++ (G.E.flatMap edgeB ++ (G.B.flatMap nodeB ++ T))))) (by omega)
  rw [← s1] at n1
  have n2 := numR2_app (G.E.length : Int) (digs (G.B.length : Int) 2 ++ (G.N.flatMap nodeB ++ (G.E.flatMap edgeB ++ (G.B.flatMap nodeB ++ T)))) (by omega)
  have s2 : pS2 (fileG G) = some (digs (G.E.length : Int) 2 ++ (digs (G.B.length : Int) 2 ++ (G.N.flatMap nodeB ++ (G.E.flatMap edgeB ++ (G.B.flatMap nodeB ++ T))))) := by unfold pS2; rw [n1]
  rw [← s2] at n2
  have n3 := numR2_app (G.B.length : Int) (G.N.flatMap nodeB ++ (G.E.flatMap edgeB ++ (G.B.flatMap nodeB ++ T))) (by omega)
  have s3 : pS3 (fileG G) = some (digs (G.B.length : Int) 2 ++ (G.N.flatMap nodeB ++ (G.E.flatMap edgeB ++ (G.B.flatMap nodeB ++ T)))) := by unfold pS3; rw [n2]
  rw [← s3] at n3
  have s4 : pS4 (fileG G) = some (G.N.flatMap nodeB ++ (G.E.flatMap edgeB ++ (G.B.flatMap nodeB ++ T))) := by unfold pS4; rw [n3]
  have mN := rdsL_app rdNode nodeB G.N (G.E.flatMap edgeB ++ (G.B.flatMap nodeB ++ T)) (fun x hx r => by obtain ⟨k, hk, rfl⟩ := List.getElem_of_mem hx; exact rdNode_app _ r (may_node G h k hk))
  have pn : rN (fileG G) = (G.N, some (G.E.flatMap edgeB ++ (G.B.flatMap nodeB ++ T))) := by unfold rN; rw [n1, s4]; exact mN
  have mE := rdsL_app rdEdge edgeB G.E (G.B.flatMap nodeB ++ T) (fun x hx r => by obtain ⟨k, hk, rfl⟩ := List.getElem_of_mem hx; exact rdEdge_app _ r (may_edge G h k hk))
  have pe : rE (fileG G) = (G.E, some (G.B.flatMap nodeB ++ T)) := by unfold rE; rw [n2, pn]; exact mE
  have mB := rdsL_app rdNode nodeB G.B T (fun x hx r => by obtain ⟨k, hk, rfl⟩ := List.getElem_of_mem hx; exact rdNode_app _ r (may_ban G h k hk))
  have pb : rB (fileG G) = (G.B, some T) := by unfold rB; rw [n3, pe]; exact mB
  have hT4 : (numR 4 (some T)).2 = some [] := by
    have h0 := numR_some 4 (by decide) T
    have hl : T.length = 4 := by rw [← hT, digs_length]
    rw [if_pos (by omega), List.drop_of_length_le (by omega)] at h0
    show (numR ((4 : Nat) : Int) (some T)).2 = _
    rw [h0]
  have h4 : (takeS 4 (some (fileG G))).1 = [77, 73, 76, 69] := by
    unfold takeS
    rw [e, if_pos (by simp only [Option.getD_some, List.length_append, List.length_cons]; omega)]
    rfl
  refine ⟨?_, h4, by rw [n1], by rw [n2], by rw [n3], by rw [pb]; exact hT4⟩
  unfold refG
  rw [pn, pe, pb]
/-- Bytes are a graph's, for the document as for the program. -/
def OkG (b : List Int) : Prop := May (parseG b) ∧ fileG (parseG b) = b
theorem ok_ref {b : List Int} (h : OkG b) : refG b = parseG b ∧ (takeS 4 (some b)).1 = [77, 73, 76, 69] ∧ (numR 2 (pS1 b)).1 ≤ 256 ∧ (numR 2 (pS2 b)).1 ≤ 512 ∧ (numR 2 (pS3 b)).1 ≤ 1024 ∧ (numR 4 (rB b).2).2 = some [] := by
  obtain ⟨h1, h2, h3, h4, h5, h6⟩ := read_file (parseG b) h.1
  rw [h.2] at h1 h2 h3 h4 h5 h6
  have b1 := h.1.1.1.2; have b2 := h.1.1.2.1; have b3 := h.1.1.2.2
  exact ⟨h1, h2, by omega, by omega, by omega, h6⟩
theorem ref_ok {b : List Int} (h1 : May (refG b)) (h2 : fileG (refG b) = b) : OkG b := by
  have h := parse_file (refG b) h1
  rw [h2] at h
  unfold OkG
  rw [h]
  exact ⟨h1, h2⟩
end Go.Proofs.Ytdccpikddhpleaa
namespace Go.Proofs.Ytdccpikddhpleaa
open Go.RowKit Mile
set_option maxRecDepth 100000
structure MFSt (w W : World) (p : Nat) (bs : List Int) (F : Nat → Prop) : Prop where
  r : MF W p false bs F
  low : ∀ k, F k → w.heap.size ≤ k
  mod : Mod (fun _ => False) w W
theorem MFSt.aft {w W W' : World} {p : Nat} {bs bs' : List Int} {F F' : Nat → Prop} (h : MFSt w W p bs F) (hO : MF W' p false bs' F') (ha : After W W' F F') : MFSt w W' p bs' F' :=
  ⟨hO, fun k hk => (ha.2 k hk).elim (h.low k) (fun e => Nat.le_trans h.mod.size e), h.mod.trans ha.1 (fun _ _ e => e) (fun i hi e => by have := h.low i e; omega)⟩
theorem MFSt.later {w W W' : World} {p : Nat} {bs : List Int} {F : Nat → Prop} (h : MFSt w W p bs F) (hm : Mod (fun _ => False) W W') : MFSt w W' p bs F :=
  ⟨h.r.keep hm (fun _ _ e => e), h.low, h.mod.of2 hm⟩
theorem mnum2 (p : Nat) (w : World) (bs : List Int) (F : Nat → Prop) (h : MF w p false bs F) (n : Int) (hn : 0 ≤ n ∧ n < 65536) (hbd : bs.length ≤ 1000000) :
    Calls Try.prog 22 #[.pointer (some ⟨p, 0, none⟩), .int .i64 2, .int .i64 n] w fun e w' => e = .returned (.tuple #[]) ∧ ∃ F', MF w' p false (bs ++ digs n 2) F' ∧ After w w' F F' := by
  have hf : fits 2 n = true := by unfold fits; simp; omega
  have e0 : mNum6 2 n (false, bs) = (false, bs ++ digs n 2) := by
    have : (sizeOk 2 && fits (2 : Int).toNat n) = true := by rw [show (2 : Int).toNat = 2 from rfl, hf]; decide
    unfold mNum6; rw [if_pos this]; rfl
  have := mnumF_any p w false bs F h 2 n hbd
  rw [e0] at this
  exact this
/-- What the reference's File tells. -/
def RFileP (G : GD) (w : World) (e : Ending) (w' : World) : Prop :=
  (May G ∧ ∃ a c, e = .returned (.tuple #[.slice a (fileG G).length c, .bool true]) ∧ w'.ownsRow w.heap.size 5 1 (.slice a (fileG G).length c) (fileG G).length ((fileG G).map (Value.int .u8)) ∧ Mod (fun _ => False) w w') ∨
  (¬ May G ∧ e = .returned (.tuple #[.slice none 0 0, .bool false]) ∧ Mod (fun _ => False) w w')

set_option maxHeartbeats 32000000 in
theorem rfile_any (G : GD) (w : World) (a1 : Option Addr) (n1 d1 : Nat) (a2 : Option Addr) (n2 d2 : Nat) (a3 : Option Addr) (n3 d3 : Nat) (h : GV w a1 n1 d1 a2 n2 d2 a3 n3 d3 G) (h1k : n1 ≤ 100000) (h2k : n2 ≤ 100000) (h3k : n3 ≤ 100000) :
    Calls Try.prog 10 #[.agg #[.slice a1 n1 d1, .slice a2 n2 d2, .slice a3 n3 d3]] w (RFileP G w) := by
  obtain ⟨iN, hiN, hzN, hsN, hbN⟩ := info_parts GR.infoN
  obtain ⟨iE, hiE, hzE, hsE, hbE⟩ := info_parts GR.infoE
  obtain ⟨iB, hiB, hzB, hsB, hbB⟩ := info_parts GR.infoB
  have hn := Lib.hid h.n
  have he := Lib.hid h.e
  have hb := Lib.hid h.b
  have HS : Hid (Ev (Mod (fun _ => False) w) w) := Lib.hid (Ev.mod w)
  replace HS := Lib.hid ((Ev.gv h).and HS.out)
  clear h
  go_enter Try.func10, Try.ntmps10
  go_upto_region 1 with fail
  obtain ⟨bx, hbx⟩ : ∃ b, w.heap.size = b := ⟨_, rfl⟩
  obtain ⟨wq1, hwq1⟩ : ∃ W, World.alloc w (.cells #[.slice a1 n1 d1, .slice a2 n2 d2, .slice a3 n3 d3] 26) = W := ⟨_, rfl⟩
  have hBbx : Blk wq1 bx 26 [.slice a1 n1 d1, .slice a2 n2 d2, .slice a3 n3 d3] := by rw [← hwq1, ← hbx]; exact Blk.new _ 26 [.slice a1 n1 d1, .slice a2 n2 d2, .slice a3 n3 d3]
  have hzbx : wq1.heap.size = bx + 1 := by rw [← hwq1, ← hbx]; exact heap_size_alloc _ _
  replace HS := Lib.hid (HS.out.step (w' := wq1) (by rw [← hwq1]; exact Mod.alloc _ _ _))
  replace HS := Lib.hid ((Ev.blk hBbx).and HS.out)
  try rw [hwq1]
  try rw [hbx]
  clear hzbx hBbx hbx hwq1
  have hbbx := (HS.out.now).1
  have qbx_0 := hbbx.cell 0 rfl
  have qbx_1 := hbbx.cell 1 rfl
  have qbx_2 := hbbx.cell 2 rfl
  have lbx := hbbx.lt
  clear hbbx
  go_wp2_with fail
  refine (rmay_any G _ a1 n1 d1 a2 n2 d2 a3 n3 d3 ((HS.out.now).2.1) h1k h2k h3k).mono ?_
  rintro e wq70 ⟨r, rfl, hrr, hmm⟩
  replace HS := Lib.hid (HS.out.step hmm)
  clear hmm
  clear qbx_0 qbx_1 qbx_2 lbx
  by_cases hmay : May G
  case neg =>
    obtain rfl : r = false := by cases r; rfl; exact absurd (hrr.1 rfl) hmay
    clear hrr
    go_wp2_with fail
    go_ret2
    exact .inr ⟨hmay, rfl, (HS.out.now).2.2⟩
  case pos =>
    obtain rfl : r = true := hrr.2 hmay
    clear hrr
    have HMAY := Lib.hid hmay
    have h1n : n1 ≤ 256 := by have := hmay.1.1.2; have := hn.out; omega
    have h2n : n2 ≤ 512 := by have := hmay.1.2.1; have := he.out; omega
    have h3n : n3 ≤ 1024 := by have := hmay.1.2.2; have := hb.out; omega
    clear hmay
    have hcv : (convert 27 27 (.slice (some ⟨wq70.heap.size, 0, none⟩) 4 4)).run Try.prog (wq70.alloc (.cells #[.int .u8 77, .int .u8 73, .int .u8 76, .int .u8 69] 5)) = .ok (.slice (some ⟨wq70.heap.size, 0, none⟩) 4 4) (wq70.alloc (.cells #[.int .u8 77, .int .u8 73, .int .u8 76, .int .u8 69] 5 (4, 5))) := Lib.run_convert_bytes_const (P := Try.prog) wq70 27 5 #[.int .u8 77, .int .u8 73, .int .u8 76, .int .u8 69] 4 4 Try.underlying27 Try.underlying5
    go_upto_region 4 with fail
    clear hcv
    obtain ⟨g0, hg0⟩ : ∃ b, wq70.heap.size = b := ⟨_, rfl⟩
    obtain ⟨w1, hw1⟩ : ∃ W, wq70.alloc (.cells #[.int .u8 77, .int .u8 73, .int .u8 76, .int .u8 69] 5 (4, 5)) = W := ⟨_, rfl⟩
    have hs1 : w1.heap.size = g0 + 1 := by rw [← hw1, ← hg0]; exact heap_size_alloc _ _
    have hm1 : Mod (fun _ => False) wq70 w1 := by rw [← hw1]; exact Mod.alloc _ _ _
    have hr1 : Rd w1 1 (.slice (some ⟨g0, 0, none⟩) 4 4) 4 [.int .u8 77, .int .u8 73, .int .u8 76, .int .u8 69] := by rw [← hw1, ← hg0]; exact Rd.lit 5 [.int .u8 77, .int .u8 73, .int .u8 76, .int .u8 69] (4, 5) _ 4 rfl rfl (by omega)
    obtain ⟨w2, hw2⟩ : ∃ W, w1.alloc (.cells #[.slice (some ⟨g0, 0, none⟩) 4 4, .bool false] 68) = W := ⟨_, rfl⟩
    have hm2 : Mod (fun _ => False) w1 w2 := by rw [← hw2]; exact Mod.alloc _ _ _
    have hb2 : Blk w2 (g0 + 1) 68 [.slice (some ⟨g0, 0, none⟩) 4 4, .bool false] := by rw [← hw2, ← hs1]; exact Blk.new _ _ _
    try rw [hw1]
    try rw [hg0]
    try rw [hw2]
    clear hw2 hw1
    obtain ⟨p, hp⟩ : ∃ p, g0 + 1 = p := ⟨_, rfl⟩
    rw [hp] at hb2
    try rw [hp]
    have h2 : MFSt wq70 w2 p [77, 73, 76, 69] (fun k => k = p ∨ k = g0) := ⟨⟨_, hb2, .inr ⟨g0, rfl, hr1.keep hm2 (fun _ _ e => e), by have := hm2.size; omega⟩, .inl rfl, fun k hk => by simp [Value.ownBlock] at hk; exact ⟨.inr hk.symm, by omega⟩, fun k hk => by have := hb2.lt; omega⟩, fun k hk => by omega, hm1.of2 hm2⟩
    have HLO : Hid (wq70.heap.size ≤ p) := Lib.hid (by omega)
    clear hb2 hr1 hm1 hm2 hs1 hp hg0
    have hbx := (HS.out.at h2.mod).1
    have qx0 := hbx.cell 0 rfl
    have qx1 := hbx.cell 1 rfl
    have qx2 := hbx.cell 2 rfl
    have lbx := hbx.lt
    clear hbx
    go_wp2_with fail
    clear qx0 qx1 qx2 lbx
    refine (mnum2 p _ _ _ h2.r (n1 : Int) ⟨by omega, by omega⟩ (by simp [digs_length])).mono ?_
    rintro e wn0 ⟨rfl, Fn0, hW, hA⟩
    have hn0 : MFSt wq70 wn0 p ([77, 73, 76, 69] ++ digs (n1 : Int) 2) Fn0 := h2.aft hW hA
    clear hW hA h2
    have hbx := (HS.out.at hn0.mod).1
    have qx0 := hbx.cell 0 rfl
    have qx1 := hbx.cell 1 rfl
    have qx2 := hbx.cell 2 rfl
    have lbx := hbx.lt
    clear hbx
    go_wp2_with fail
    clear qx0 qx1 qx2 lbx
    refine (mnum2 p _ _ _ hn0.r (n2 : Int) ⟨by omega, by omega⟩ (by simp [digs_length])).mono ?_
    rintro e wn1 ⟨rfl, Fn1, hW, hA⟩
    have hn1 : MFSt wq70 wn1 p ([77, 73, 76, 69] ++ digs (n1 : Int) 2 ++ digs (n2 : Int) 2) Fn1 := hn0.aft hW hA
    clear hW hA hn0
    have hbx := (HS.out.at hn1.mod).1
    have qx0 := hbx.cell 0 rfl
    have qx1 := hbx.cell 1 rfl
    have qx2 := hbx.cell 2 rfl
    have lbx := hbx.lt
    clear hbx
    go_wp2_with fail
    clear qx0 qx1 qx2 lbx
    refine (mnum2 p _ _ _ hn1.r (n3 : Int) ⟨by omega, by omega⟩ (by simp [digs_length])).mono ?_
    rintro e wn2 ⟨rfl, Fn2, hW, hA⟩
    have hn2 : MFSt wq70 wn2 p ([77, 73, 76, 69] ++ digs (n1 : Int) 2 ++ digs (n2 : Int) 2 ++ digs (n3 : Int) 2) Fn2 := hn1.aft hW hA
    clear hW hA hn1
    have h3 : MFSt wq70 wn2 p (hdG G) Fn2 := by
      have e : hdG G = [77, 73, 76, 69] ++ digs (n1 : Int) 2 ++ digs (n2 : Int) 2 ++ digs (n3 : Int) 2 := by unfold hdG nb2; rw [hn.out, he.out, hb.out]; simp
      rw [e]; exact hn2
    clear hn2
    have HL0 := Lib.hid (hdG_len G)
    have HNL := Lib.hid hn.out
    have HEL := Lib.hid he.out
    have hbx := (HS.out.at h3.mod).1
    have qx0 := hbx.cell 0 rfl
    have qx1 := hbx.cell 1 rfl
    have qx2 := hbx.cell 2 rfl
    have lbx := hbx.lt
    clear hbx
    go_wp2_with fail
    clear qx0 qx1 qx2 lbx
    have H1 := Lib.hid h3
    go_loopw [5] (fun i wr => ∃ (k : Nat) (FF : Nat → Prop), k ≤ n1 ∧ i = .int .i64 k ∧ MFSt wq70 wr p (hdG G ++ (G.N.take k).flatMap nodeB) FF) (fun i _ => n1 - (intOf i).toNat)
    case atStart => exact ⟨0, Fn2, by omega, rfl, by simpa using H1.out⟩
    case round =>
      obtain ⟨k, FF, hk, rfl, hst⟩ := hrel
      obtain ⟨wo, hwo⟩ : ∃ x : World, x = wr := ⟨_, rfl⟩
      subst hwo
      have HT := Lib.hid hst
      clear hst
      by_cases hlt : k < n1
      case pos =>
        have hkl : k < G.N.length := by rw [hn.out]; exact hlt
        have z0 : decide ((k : Int) < (n1 : Int)) = true := by simp; omega
        have hrg := may_node G HMAY.out k hkl
        have htk := fm_take nodeB G.N k hkl
        obtain ⟨x0, HXx00⟩ : ∃ qz, (G.N[k]).1 = qz := ⟨_, rfl⟩
        have HXx0 := Lib.hid HXx00
        clear HXx00
        obtain ⟨x1, HXx10⟩ : ∃ qz, (G.N[k]).2 = qz := ⟨_, rfl⟩
        have HXx1 := Lib.hid HXx10
        clear HXx10
        rw [show nodeB G.N[k] = nb2 [x0, x1] from by rw [← HXx0.out, ← HXx1.out]; rfl] at htk
        rw [HXx0.out, HXx1.out] at hrg
        obtain ⟨eb, eo, hpl, e0, e1⟩ := Mile.rd2 (HS.out.now).2.1.rn k hkl
        have hix := fun wx => run_indexS (P := Try.prog) wx 22 50 iN 2 Try.underlying22 hiN hsN a1 n1 d1 k hlt ((HS.out.now).2.1.rn.some_ (by have := hlt; omega))
        rw [hpl] at hix
        have HIe := Lib.hid hix
        clear hix hpl
        rw [HXx0.out] at e0
        replace HS := Lib.hid ((Ev.cell e0).and HS.out)
        clear e0
        rw [HXx1.out] at e1
        replace HS := Lib.hid ((Ev.cell e1).and HS.out)
        clear e1
        have hix := HIe.out
        obtain ⟨bs, hbs⟩ : ∃ l, hdG G ++ (G.N.take k).flatMap nodeB = l := ⟨_, rfl⟩
        have hbl : bs.length ≤ 100000 := by rw [← hbs, List.length_append, HL0.out]; have := fm_take_len nodeB 4 nodeB_len G.N k; have := hn.out; omega
        have HBS := Lib.hid hbs
        have HTK := Lib.hid htk
        have h5 := HT.out
        rw [hbs] at h5
        clear hbs htk
        have hbx := (HS.out.at h5.mod).2.2.1
        have qx0 := hbx.cell 0 rfl
        have qx1 := hbx.cell 1 rfl
        have qx2 := hbx.cell 2 rfl
        have lbx := hbx.lt
        clear hbx
        have qe0 := (HS.out.at h5.mod).2.1
        go_wp2_with fail
        clear qx0 qx1 qx2 lbx
        clear qe0
        refine (mnum2 p _ _ _ h5.r x0 (by omega) (by first | omega | (simp [digs_length]; omega))).mono ?_
        rintro e wn3 ⟨rfl, Fn3, hW, hA⟩
        have hn3 : MFSt wq70 wn3 p (bs ++ digs x0 2) Fn3 := h5.aft hW hA
        clear hW hA h5
        have hbx := (HS.out.at hn3.mod).2.2.1
        have qx0 := hbx.cell 0 rfl
        have qx1 := hbx.cell 1 rfl
        have qx2 := hbx.cell 2 rfl
        have lbx := hbx.lt
        clear hbx
        have qe1 := (HS.out.at hn3.mod).1
        go_wp2_with fail
        clear qx0 qx1 qx2 lbx
        clear qe1
        refine (mnum2 p _ _ _ hn3.r x1 (by omega) (by first | omega | (simp [digs_length]; omega))).mono ?_
        rintro e wn4 ⟨rfl, Fn4, hW, hA⟩
        have hn4 : MFSt wq70 wn4 p (bs ++ digs x0 2 ++ digs x1 2) Fn4 := hn3.aft hW hA
        clear hW hA hn3
        have H8 := Lib.hid hn4
        clear hn4
        go_wp2_with fail
        go_roundw
        case rel => exact ⟨k + 1, Fn4, hlt, by go_num, by rw [HTK.out, ← List.append_assoc, HBS.out]; have h9 := H8.out; simp only [List.append_assoc] at h9; unfold nb2; simpa using h9⟩
        case measure => simp [intOf]; omega
      case neg =>
        have hke : k = n1 := by omega
        have z0 : decide ((k : Int) < (n1 : Int)) = false := by rw [hke]; simp
        have hq1 := HT.out
        rw [hke, List.take_of_length_le (by rw [hn.out]; exact Nat.le_refl _)] at hq1
        clear hke HT
        have hbx := (HS.out.at hq1.mod).1
        have qx0 := hbx.cell 0 rfl
        have qx1 := hbx.cell 1 rfl
        have qx2 := hbx.cell 2 rfl
        have lbx := hbx.lt
        clear hbx
        go_wp2_with fail
        clear qx0 qx1 qx2 lbx
        clear z0
        have H2 := Lib.hid hq1
        go_loopw [6] (fun i wr => ∃ (k : Nat) (FF : Nat → Prop), k ≤ n2 ∧ i = .int .i64 k ∧ MFSt wq70 wr p ((hdG G ++ G.N.flatMap nodeB) ++ (G.E.take k).flatMap edgeB) FF) (fun i _ => n2 - (intOf i).toNat)
        case atStart => exact ⟨0, FF, by omega, rfl, by simpa using H2.out⟩
        case round =>
          obtain ⟨k, FF, hk, rfl, hst⟩ := hrel
          obtain ⟨wo, hwo⟩ : ∃ x : World, x = wr := ⟨_, rfl⟩
          subst hwo
          have HT := Lib.hid hst
          clear hst
          by_cases hlt : k < n2
          case pos =>
            have hkl : k < G.E.length := by rw [he.out]; exact hlt
            have z0 : decide ((k : Int) < (n2 : Int)) = true := by simp; omega
            have hrg := may_edge G HMAY.out k hkl
            have htk := fm_take edgeB G.E k hkl
            obtain ⟨x0, HXx00⟩ : ∃ qz, (G.E[k]).1 = qz := ⟨_, rfl⟩
            have HXx0 := Lib.hid HXx00
            clear HXx00
            obtain ⟨x1, HXx10⟩ : ∃ qz, (G.E[k]).2.1 = qz := ⟨_, rfl⟩
            have HXx1 := Lib.hid HXx10
            clear HXx10
            obtain ⟨x2, HXx20⟩ : ∃ qz, (G.E[k]).2.2 = qz := ⟨_, rfl⟩
            have HXx2 := Lib.hid HXx20
            clear HXx20
            rw [show edgeB G.E[k] = nb2 [x0, x1, x2] from by rw [← HXx0.out, ← HXx1.out, ← HXx2.out]; rfl] at htk
            rw [HXx0.out, HXx1.out, HXx2.out] at hrg
            obtain ⟨eb, eo, hpl, e0, e1, e2⟩ := Mile.rd3 (HS.out.now).2.1.re k hkl
            have hix := fun wx => run_indexS (P := Try.prog) wx 23 52 iE 3 Try.underlying23 hiE hsE a2 n2 d2 k hlt ((HS.out.now).2.1.re.some_ (by have := hlt; omega))
            rw [hpl] at hix
            have HIe := Lib.hid hix
            clear hix hpl
            rw [HXx0.out] at e0
            replace HS := Lib.hid ((Ev.cell e0).and HS.out)
            clear e0
            rw [HXx1.out] at e1
            replace HS := Lib.hid ((Ev.cell e1).and HS.out)
            clear e1
            rw [HXx2.out] at e2
            replace HS := Lib.hid ((Ev.cell e2).and HS.out)
            clear e2
            have hix := HIe.out
            obtain ⟨bs, hbs⟩ : ∃ l, (hdG G ++ G.N.flatMap nodeB) ++ (G.E.take k).flatMap edgeB = l := ⟨_, rfl⟩
            have hbl : bs.length ≤ 100000 := by rw [← hbs, List.length_append, List.length_append, HL0.out, fm_len2 nodeB 4 nodeB_len, HNL.out]; have := fm_take_len edgeB 6 edgeB_len G.E k; have := he.out; omega
            have HBS := Lib.hid hbs
            have HTK := Lib.hid htk
            have h5 := HT.out
            rw [hbs] at h5
            clear hbs htk
            have hbx := (HS.out.at h5.mod).2.2.2.1
            have qx0 := hbx.cell 0 rfl
            have qx1 := hbx.cell 1 rfl
            have qx2 := hbx.cell 2 rfl
            have lbx := hbx.lt
            clear hbx
            have qe0 := (HS.out.at h5.mod).2.2.1
            go_wp2_with fail
            clear qx0 qx1 qx2 lbx
            clear qe0
            refine (mnum2 p _ _ _ h5.r x0 (by omega) (by first | omega | (simp [digs_length]; omega))).mono ?_
            rintro e wn5 ⟨rfl, Fn5, hW, hA⟩
            have hn5 : MFSt wq70 wn5 p (bs ++ digs x0 2) Fn5 := h5.aft hW hA
            clear hW hA h5
            have hbx := (HS.out.at hn5.mod).2.2.2.1
            have qx0 := hbx.cell 0 rfl
            have qx1 := hbx.cell 1 rfl
            have qx2 := hbx.cell 2 rfl
            have lbx := hbx.lt
            clear hbx
            have qe1 := (HS.out.at hn5.mod).2.1
            go_wp2_with fail
            clear qx0 qx1 qx2 lbx
            clear qe1
            refine (mnum2 p _ _ _ hn5.r x1 (by omega) (by first | omega | (simp [digs_length]; omega))).mono ?_
            rintro e wn6 ⟨rfl, Fn6, hW, hA⟩
            have hn6 : MFSt wq70 wn6 p (bs ++ digs x0 2 ++ digs x1 2) Fn6 := hn5.aft hW hA
            clear hW hA hn5
            have hbx := (HS.out.at hn6.mod).2.2.2.1
            have qx0 := hbx.cell 0 rfl
            have qx1 := hbx.cell 1 rfl
            have qx2 := hbx.cell 2 rfl
            have lbx := hbx.lt
            clear hbx
            have qe2 := (HS.out.at hn6.mod).1
            go_wp2_with fail
            clear qx0 qx1 qx2 lbx
            clear qe2
            refine (mnum2 p _ _ _ hn6.r x2 (by omega) (by first | omega | (simp [digs_length]; omega))).mono ?_
            rintro e wn7 ⟨rfl, Fn7, hW, hA⟩
            have hn7 : MFSt wq70 wn7 p (bs ++ digs x0 2 ++ digs x1 2 ++ digs x2 2) Fn7 := hn6.aft hW hA
            clear hW hA hn6
            have H8 := Lib.hid hn7
            clear hn7
            go_wp2_with fail
            go_roundw
            case rel => exact ⟨k + 1, Fn7, hlt, by go_num, by rw [HTK.out, ← List.append_assoc, HBS.out]; have h9 := H8.out; simp only [List.append_assoc] at h9; unfold nb2; simpa using h9⟩
            case measure => simp [intOf]; omega
          case neg =>
            have hke : k = n2 := by omega
            have z0 : decide ((k : Int) < (n2 : Int)) = false := by rw [hke]; simp
            have hq2 := HT.out
            rw [hke, List.take_of_length_le (by rw [he.out]; exact Nat.le_refl _)] at hq2
            clear hke HT
            have hbx := (HS.out.at hq2.mod).1
            have qx0 := hbx.cell 0 rfl
            have qx1 := hbx.cell 1 rfl
            have qx2 := hbx.cell 2 rfl
            have lbx := hbx.lt
            clear hbx
            go_wp2_with fail
            clear qx0 qx1 qx2 lbx
            clear z0
            have H3 := Lib.hid hq2
            go_loopw [7] (fun i wr => ∃ (k : Nat) (FF : Nat → Prop), k ≤ n3 ∧ i = .int .i64 k ∧ MFSt wq70 wr p ((hdG G ++ G.N.flatMap nodeB ++ G.E.flatMap edgeB) ++ (G.B.take k).flatMap nodeB) FF) (fun i _ => n3 - (intOf i).toNat)
            case atStart => exact ⟨0, FF, by omega, rfl, by simpa using H3.out⟩
            case round =>
              obtain ⟨k, FF, hk, rfl, hst⟩ := hrel
              obtain ⟨wo, hwo⟩ : ∃ x : World, x = wr := ⟨_, rfl⟩
              subst hwo
              have HT := Lib.hid hst
              clear hst
              by_cases hlt : k < n3
              case pos =>
                have hkl : k < G.B.length := by rw [hb.out]; exact hlt
                have z0 : decide ((k : Int) < (n3 : Int)) = true := by simp; omega
                have hrg := may_ban G HMAY.out k hkl
                have htk := fm_take nodeB G.B k hkl
                obtain ⟨x0, HXx00⟩ : ∃ qz, (G.B[k]).1 = qz := ⟨_, rfl⟩
                have HXx0 := Lib.hid HXx00
                clear HXx00
                obtain ⟨x1, HXx10⟩ : ∃ qz, (G.B[k]).2 = qz := ⟨_, rfl⟩
                have HXx1 := Lib.hid HXx10
                clear HXx10
                rw [show nodeB G.B[k] = nb2 [x0, x1] from by rw [← HXx0.out, ← HXx1.out]; rfl] at htk
                rw [HXx0.out, HXx1.out] at hrg
                obtain ⟨eb, eo, hpl, e0, e1⟩ := Mile.rd2 (HS.out.now).2.1.rb k hkl
                have hix := fun wx => run_indexS (P := Try.prog) wx 24 63 iB 2 Try.underlying24 hiB hsB a3 n3 d3 k hlt ((HS.out.now).2.1.rb.some_ (by have := hlt; omega))
                rw [hpl] at hix
                have HIe := Lib.hid hix
                clear hix hpl
                rw [HXx0.out] at e0
                replace HS := Lib.hid ((Ev.cell e0).and HS.out)
                clear e0
                rw [HXx1.out] at e1
                replace HS := Lib.hid ((Ev.cell e1).and HS.out)
                clear e1
                have hix := HIe.out
                obtain ⟨bs, hbs⟩ : ∃ l, (hdG G ++ G.N.flatMap nodeB ++ G.E.flatMap edgeB) ++ (G.B.take k).flatMap nodeB = l := ⟨_, rfl⟩
                have hbl : bs.length ≤ 100000 := by rw [← hbs, List.length_append, List.length_append, List.length_append, HL0.out, fm_len2 nodeB 4 nodeB_len, fm_len2 edgeB 6 edgeB_len, HNL.out, HEL.out]; have := fm_take_len nodeB 4 nodeB_len G.B k; have := hb.out; omega
                have HBS := Lib.hid hbs
                have HTK := Lib.hid htk
                have h5 := HT.out
                rw [hbs] at h5
                clear hbs htk
                have hbx := (HS.out.at h5.mod).2.2.1
                have qx0 := hbx.cell 0 rfl
                have qx1 := hbx.cell 1 rfl
                have qx2 := hbx.cell 2 rfl
                have lbx := hbx.lt
                clear hbx
                have qe0 := (HS.out.at h5.mod).2.1
                go_wp2_with fail
                clear qx0 qx1 qx2 lbx
                clear qe0
                refine (mnum2 p _ _ _ h5.r x0 (by omega) (by first | omega | (simp [digs_length]; omega))).mono ?_
                rintro e wn8 ⟨rfl, Fn8, hW, hA⟩
                have hn8 : MFSt wq70 wn8 p (bs ++ digs x0 2) Fn8 := h5.aft hW hA
                clear hW hA h5
                have hbx := (HS.out.at hn8.mod).2.2.1
                have qx0 := hbx.cell 0 rfl
                have qx1 := hbx.cell 1 rfl
                have qx2 := hbx.cell 2 rfl
                have lbx := hbx.lt
                clear hbx
                have qe1 := (HS.out.at hn8.mod).1
                go_wp2_with fail
                clear qx0 qx1 qx2 lbx
                clear qe1
                refine (mnum2 p _ _ _ hn8.r x1 (by omega) (by first | omega | (simp [digs_length]; omega))).mono ?_
                rintro e wn9 ⟨rfl, Fn9, hW, hA⟩
                have hn9 : MFSt wq70 wn9 p (bs ++ digs x0 2 ++ digs x1 2) Fn9 := hn8.aft hW hA
                clear hW hA hn8
                have H8 := Lib.hid hn9
                clear hn9
                go_wp2_with fail
                go_roundw
                case rel => exact ⟨k + 1, Fn9, hlt, by go_num, by rw [HTK.out, ← List.append_assoc, HBS.out]; have h9 := H8.out; simp only [List.append_assoc] at h9; unfold nb2; simpa using h9⟩
                case measure => simp [intOf]; omega
              case neg =>
                have hke : k = n3 := by omega
                have z0 : decide ((k : Int) < (n3 : Int)) = false := by rw [hke]; simp
                have hq3 := HT.out
                rw [hke, List.take_of_length_le (by rw [hb.out]; exact Nat.le_refl _)] at hq3
                clear hke HT
                have h5 : MFSt wq70 wo p (ahG G) FF := hq3
                clear hq3
                have hl := ahG_len G
                have hrg := ahG_range G
                have hal : (ahG G).length ≤ 100000 := by rw [hl, hn.out, he.out, hb.out]; omega
                have HFG := Lib.hid (show fileG G = frL (ahG G) from rfl)
                clear hl
                obtain ⟨HD, hHD⟩ : ∃ l, ahG G = l := ⟨_, rfl⟩
                rw [hHD] at h5 hrg hal HFG
                clear hHD
                have HMO := Lib.hid h5.mod
                obtain ⟨v, hblk, hown, _, _, _⟩ := h5.r
                have hrd := hown.rd
                obtain ⟨_, av, cv, rfl, _⟩ := id hrd
                have c0 := hblk.cell 0 rfl
                have lp := hblk.lt
                clear h5 hblk hown
                have hbx := (HS.out.at HMO.out).1
                have qx0 := hbx.cell 0 rfl
                have qx1 := hbx.cell 1 rfl
                have qx2 := hbx.cell 2 rfl
                have lbx := hbx.lt
                clear hbx
                obtain ⟨ln, hln⟩ : ∃ n, HD.length = n := ⟨_, rfl⟩
                rw [hln] at hrd c0 hal
                go_wp2_with fail
                clear qx0 qx1 qx2 lbx
                refine (summed_any _ av ln cv HD hln hrd hrg hal).mono ?_
                rintro e wz ⟨a9, c9, rfl, ho9, hm9⟩
                have hlf : (fileG G).length = ln + 4 := by rw [HFG.out]; unfold frL; rw [List.length_append, digs_length, hln]
                have HO9 := Lib.hid (Own.base ho9 (Nat.le_trans ((HS.out.now).2.2).size HMO.out.size))
                have HM9 := Lib.hid (((HS.out.now).2.2).of2 (HMO.out.of2 hm9))
                have HLF := Lib.hid hlf
                clear ho9 hm9 hlf hrd hrg
                go_wp2_with fail
                go_ret2
                exact .inl ⟨HMAY.out, a9, c9, by rw [HLF.out]; rfl, by rw [HLF.out, HFG.out]; exact HO9.out, HM9.out⟩
end Go.Proofs.Ytdccpikddhpleaa
