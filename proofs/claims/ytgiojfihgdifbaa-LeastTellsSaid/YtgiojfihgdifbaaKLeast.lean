/- The least way, as plain lists. -/
import Derived.Test.YtgiojfihgdifbaaBestP
import Derived.Test.YtgiojfihgdifbaaKDist
import Derived.Test.YtgiojfihgdifbaaTurns2
import Derived.Test.YtgiojfihgdifbaaIRow
import Derived.Test.YtgiojfihgdifbaaRegion2
import Derived.Deep.DeepCutAuto
import Derived.Deep.CutBlock
import Derived.Test.YtgiojfihgdifbaaKReg
import Derived.Test.YtgiojfihgdifbaaLaw11
namespace Go.Proofs.Ytgiojfihgdifbaa
open Go.RowKit Mile
/-- Is b behind e on a shortest walk? -/
def okN (G : GD) (d : List Int) (cl : List Bool) (e : Nat) (b : Int) : Bool := !clB cl b && decide (0 ≤ dAt d b.toNat) && decide (viaN G d b = dAt d e)
theorem okN_iff {G : GD} {d : List Int} {cl : List Bool} {e : Nat} {b : Int} : okN G d cl e b = true ↔ goodN d cl b ∧ viaN G d b = dAt d e := by
  unfold okN goodN
  simp [and_assoc]
/-- The least edge behind e on a shortest walk. -/
def nextN (G : GD) (d : List Int) (cl : List Bool) (e : Nat) : Option Int := (nxtR G (e : Int)).find? (okN G d cl e)
/-- The way from e on, for so many steps at most. -/
def wayF (G : GD) (d : List Int) (cl : List Bool) : Nat → Nat → List Int
  | 0, _ => []
  | n + 1, e => if 0 < dAt d e then (match nextN G d cl e with | some b => b :: wayF G d cl n b.toNat | none => []) else []
def wayN (G : GD) (d : List Int) (cl : List Bool) (e : Nat) : List Int := wayF G d cl (dAt d e).toNat e
theorem next_ok {G : GD} {hm : May G} {v : Int} {cl : List Bool} {d : List Int} (h : Fix (webTo G hm v cl) d) {e : Nat} (h0 : 0 < dAt d e) :
    ∃ k : Nat, nextN G d cl e = some (k : Int) ∧ k < G.E.length ∧ turnB G (e : Int) (k : Int) = true ∧ clB cl (k : Int) = false ∧ 0 ≤ dAt d k ∧ dAt d k + (eAt G (k : Int)).2.2 = dAt d e ∧ dAt d k < dAt d e := by
  cases hf : nextN G d cl e with
  | some b =>
    have hb := List.find?_some hf
    have hi := List.mem_of_find?_eq_some hf
    unfold nxtR at hi
    obtain ⟨k, hk, hbk⟩ := List.mem_map.1 hi
    replace hbk : b = (k : Int) := hbk.symm
    subst hbk
    obtain ⟨h1, h2⟩ := List.mem_filter.1 hk
    obtain ⟨⟨g1, g2⟩, g3⟩ := okN_iff.1 hb
    have hke : k < G.E.length := List.mem_range.1 h1
    have hw := edgeW G hm (k : Int) ⟨by omega, by omega⟩
    unfold viaN at g3
    rw [Int.toNat_natCast] at g2 g3
    exact ⟨k, rfl, hke, h2, g1, g2, g3, by omega⟩
  | none =>
    exfalso
    have hn := List.find?_eq_none.1 hf
    rcases h.why e (by omega) with ⟨_, h2⟩ | ⟨b, h1, h2, h3⟩
    · omega
    · refine hn (b : Int) (mem_nxt h1.1) (okN_iff.2 ⟨⟨h1.2, h2⟩, ?_⟩)
      unfold viaN
      rw [Int.toNat_natCast]
      exact h3.symm
theorem wayF_more {G : GD} {hm : May G} {v : Int} {cl : List Bool} {d : List Int} (h : Fix (webTo G hm v cl) d) : ∀ (n m e : Nat), (dAt d e).toNat ≤ n → (dAt d e).toNat ≤ m → wayF G d cl n e = wayF G d cl m e
  | 0, 0, e, _, _ => rfl
  | 0, m + 1, e, h1, _ => by
    show [] = (if 0 < dAt d e then _ else [])
    rw [if_neg (by omega)]
  | n + 1, 0, e, _, h2 => by
    show (if 0 < dAt d e then _ else []) = []
    rw [if_neg (by omega)]
  | n + 1, m + 1, e, h1, h2 => by
    show (if 0 < dAt d e then _ else []) = (if 0 < dAt d e then _ else [])
    by_cases h0 : 0 < dAt d e
    · rw [if_pos h0, if_pos h0]
      obtain ⟨k, hk, _, _, _, _, _, hlt⟩ := next_ok h h0
      rw [hk]
      show (k : Int) :: wayF G d cl n (k : Int).toNat = (k : Int) :: wayF G d cl m (k : Int).toNat
      rw [Int.toNat_natCast, wayF_more h n m k (by omega) (by omega)]
    · rw [if_neg h0, if_neg h0]
theorem wayN_step {G : GD} {hm : May G} {v : Int} {cl : List Bool} {d : List Int} (h : Fix (webTo G hm v cl) d) {e k : Nat} (h0 : 0 < dAt d e) (hk : nextN G d cl e = some (k : Int)) : wayN G d cl e = (k : Int) :: wayN G d cl k := by
  obtain ⟨j, hj, _, _, _, _, _, hlt⟩ := next_ok h h0
  rw [hk] at hj
  obtain rfl : k = j := by have := Option.some.inj hj; omega
  unfold wayN
  obtain ⟨n, hn⟩ : ∃ n, (dAt d e).toNat = n + 1 := ⟨(dAt d e).toNat - 1, by omega⟩
  rw [hn]
  show (if 0 < dAt d e then _ else []) = _
  rw [if_pos h0, hk]
  show (k : Int) :: wayF G d cl n (k : Int).toNat = _
  rw [Int.toNat_natCast, wayF_more h n _ k (by omega) (Nat.le_refl _)]
theorem wayN_end {G : GD} {d : List Int} {cl : List Bool} {e : Nat} (h0 : ¬ 0 < dAt d e) : wayN G d cl e = [] := by
  unfold wayN
  have : (dAt d e).toNat = 0 := by omega
  rw [this]; rfl
/-- What a way is: a walk without what is closed, that ends where nothing is left; as heavy as it is far. -/
theorem wayN_walk {G : GD} {hm : May G} {v : Int} {cl : List Bool} {d : List Int} (h : Fix (webTo G hm v cl) d) : ∀ (n : Nat) (e : Nat), 0 ≤ dAt d e → (dAt d e).toNat ≤ n →
    wlk G (e : Int) (wayN G d cl e) = true ∧ (∀ x ∈ wayN G d cl e, clB cl x = false) ∧ wS G (wayN G d cl e) = dAt d e ∧ dAt d (lastD (e : Int) (wayN G d cl e)).toNat = 0 ∧ 0 ≤ lastD (e : Int) (wayN G d cl e)
      ∧ (∀ x ∈ wayN G d cl e, ∃ k : Nat, x = (k : Int) ∧ 0 ≤ dAt d k ∧ dAt d k < dAt d e) := by
  intro n
  induction n using Nat.strongRecOn with
  | ind n ih =>
    intro e he hn
    by_cases h0 : 0 < dAt d e
    · obtain ⟨k, hk, hke, ht, hc, hd0, hw, hlt⟩ := next_ok h h0
      rw [wayN_step h h0 hk]
      obtain ⟨i1, i2, i3, i4, i5, i6⟩ := ih (n - 1) (by omega) k hd0 (by omega)
      have e1 : lastD (e : Int) ((k : Int) :: wayN G d cl k) = lastD (k : Int) (wayN G d cl k) := by unfold lastD; rw [List.getLast?_cons]; simp
      rw [e1]
      refine ⟨?_, ?_, ?_, i4, i5, ?_⟩
      · show (turnB G (e : Int) (k : Int) && wlk G (k : Int) (wayN G d cl k)) = true
        rw [ht, i1]; rfl
      · intro x hx
        rcases List.mem_cons.1 hx with rfl | hx
        · exact hc
        · exact i2 x hx
      · show (eAt G (k : Int)).2.2 + wS G (wayN G d cl k) = _
        omega
      · intro x hx
        rcases List.mem_cons.1 hx with rfl | hx
        · exact ⟨k, rfl, hd0, hlt⟩
        · obtain ⟨j, j1, j2, j3⟩ := i6 x hx
          exact ⟨j, j1, j2, by omega⟩
    · rw [wayN_end h0]
      have e1 : lastD (e : Int) [] = (e : Int) := by simp [lastD]
      rw [e1, Int.toNat_natCast]
      exact ⟨rfl, fun x hx => (by cases hx), (by show (0 : Int) = _; omega), by omega, by omega, fun x hx => (by cases hx)⟩
end Go.Proofs.Ytgiojfihgdifbaa
namespace Go.Proofs.Ytgiojfihgdifbaa
open Go.RowKit Mile
set_option maxRecDepth 100000
theorem lat_any (w : World) (a : Option Addr) (n c : Nat) (d : List Int) (hn : d.length = n) (hr : Rd w 1 (.slice a n c) n (d.map (Value.int .i64))) (k : Nat) :
    Calls Try.prog 51 #[.slice a n c, .int .i64 (k : Int)] w fun e w' => e = .returned (.int .i64 (dAt d k)) ∧ w = w' := by
  obtain ⟨iI, hiI, hzI, hsI, hbI⟩ := info_parts GR.infoI
  by_cases h : k < n
  · have hkd : k < d.length := by omega
    obtain ⟨eb, eo, hpl, e0⟩ := rd1 hr k hkd
    have hix := fun wx => run_indexS (P := Try.prog) wx 22 3 iI 1 Try.underlying22 hiI hsI a n c k h (hr.some_ (by omega))
    rw [hpl] at hix
    rw [← dAt_eq d k hkd] at e0
    obtain ⟨x, hx⟩ : ∃ x, dAt d k = x := ⟨_, rfl⟩
    rw [hx] at e0 ⊢
    have z0 : decide ((n : Int) ≤ (k : Int)) = false := by simp; omega
    clear hx hpl hr hn hkd
    go_enter Try.func51, Try.ntmps51
    go_wp2_with fail
    go_ret
    exact ⟨rfl, rfl⟩
  · rw [dAt_out d k (by omega)]
    have z0 : decide ((n : Int) ≤ (k : Int)) = true := by simp; omega
    clear hr hn
    go_enter Try.func51, Try.ntmps51
    go_wp2_with fail
    go_ret
    exact ⟨rfl, rfl⟩
end Go.Proofs.Ytgiojfihgdifbaa
namespace Go.Proofs.Ytgiojfihgdifbaa
open Go.RowKit Mile
set_option maxRecDepth 100000
theorem find_at {p : Int → Bool} : ∀ (l : List Int) (q : Nat) (h : q < l.length), (∀ x ∈ l.take q, p x = false) → p l[q] = true → l.find? p = some l[q]
  | x :: l, 0, _, _, hp => by rw [List.find?_cons]; rw [show p x = true from hp]; rfl
  | x :: l, q + 1, h, ha, hp => by
    rw [List.find?_cons, ha x (by simp)]
    exact find_at l q (by simpa using h) (fun y hy => ha y (by simp [hy])) hp
theorem okN_at {G : GD} {d : List Int} {cl : List Bool} {e k : Nat} {x de : Int} {u : Int} {b : Bool} (h1 : dAt d k = x) (h2 : dAt d e = de) (h3 : (eAt G (k : Int)).2.2 = u) (h4 : clB cl (k : Int) = b) : okN G d cl e (k : Int) = (!b && decide (0 ≤ x) && decide (x + u = de)) := by
  unfold okN viaN
  rw [Int.toNat_natCast, h1, h2, h3, h4]
/-- What each operation of the statement leaves. -/
def ls_r5_0_F (k : Nat) (n2 : Nat) (cx : Nat) (ax : Option Addr) (de : Int) (uc : Int) (eb : Nat) : List (Value → World → Prop) :=
  [IsV (.slice ax n2 cx),
   IsV (.int .i64 (k : Int)),
   IsV (.int .i64 de),
   IsV (.pointer (some ⟨eb, 2, none⟩)),
   IsV (.int .i64 uc),
   IsV (.int .i64 (de - uc)),
   IsV (.int .i64 (de - uc))]
def ls_r5_0_D : List (List Nat) := [[], [], [0, 1], [], [3], [2, 4], [5]]

set_option maxHeartbeats 16000000 in
theorem lstep_any (t p B C : Nat) (G : GD) (hm : May G) (w : World) (h : TO w t p B C G) (v : Int) (k : Nat) (ax : Option Addr) (n2 cx : Nat) (d : List Int) (hdl : d.length = n2) (hr : Rd w 1 (.slice ax n2 cx) n2 (d.map (Value.int .i64))) (ac : Option Addr) (nc cc : Nat) (cl : List Bool) (hnc : cl.length = nc) (hcl : Rd w 1 (.slice ac nc cc) nc (cl.map Value.bool)) (hdf : Fix (webTo G hm v cl) d) (j : Nat) (hnx : nextN G d cl k = some (j : Int)) :
    Calls Try.prog 52 #[.pointer (some ⟨t, 0, none⟩), .int .i64 (k : Int), .slice ax n2 cx, .slice ac nc cc] w fun e w' => e = .returned (.tuple #[.int .i64 (j : Int), .bool true]) ∧ Mod (fun _ => False) w w' := by
  obtain ⟨iI, hiI, hzI, hsI, hbI⟩ := info_parts GR.infoI
  have HDL := Lib.hid hdl
  have HNC := Lib.hid hnc
  have HDF := Lib.hid hdf
  have HNX := Lib.hid hnx
  clear hdl hnc hdf hnx
  have HS : Hid (Ev (Mod (fun _ => False) w) w) := Lib.hid (Ev.mod w)
  replace HS := Lib.hid ((Ev.to h).and HS.out)
  replace HS := Lib.hid ((Ev.rd hr).and HS.out)
  replace HS := Lib.hid ((Ev.rd hcl).and HS.out)
  clear h hr hcl
  obtain ⟨de, HDE0⟩ : ∃ qz, dAt d k = qz := ⟨_, rfl⟩
  have HDE := Lib.hid HDE0
  clear HDE0
  have hmo := HDF.out.most (show G.E.length ≤ 512 from hm.1.2.1) k
  have hlo := HDF.out.low k
  rw [HDE.out] at hmo hlo
  go_enter Try.func52, Try.ntmps52
  go_wp2_with fail
  refine (next_any t p B C G _ ((HS.out.now).2.2.1) (k : Int)).mono ?_
  rintro e wq1 ⟨v', rfl, ⟨an, cn, rfl, hx'⟩, hmm⟩
  replace HS := Lib.hid (HS.out.step hmm)
  clear hmm
  replace HS := Lib.hid ((Ev.rd hx').and HS.out)
  clear hx'
  have hfn := HNX.out
  unfold nextN at hfn
  have hnl := nxtR_len G (k : Int)
  have hgl : G.E.length ≤ 512 := hm.1.2.1
  obtain ⟨ns, hns⟩ : ∃ x, nxtR G (k : Int) = x := ⟨_, rfl⟩
  have hin : ∀ (i : Nat) (h : i < ns.length), ∃ q : Nat, ns[i] = (q : Int) ∧ q < G.E.length := by subst hns; intro i h; obtain ⟨q, h1, h2, _⟩ := nxtR_at G (k : Int) i h; exact ⟨q, h1, h2⟩
  rw [hns] at HS hnl hfn ⊢
  obtain ⟨ln, hln⟩ : ∃ n, ns.length = n := ⟨_, rfl⟩
  rw [hln] at HS hnl ⊢
  have hl1 : ln ≤ 512 := by omega
  have HLN := Lib.hid hln
  have HIN := Lib.hid hin
  have HFN := Lib.hid hfn
  clear hln hnl hin hns hfn
  go_wp2_with fail
  replace HS := Lib.hid ((Ev.mod wq1).and HS.out)
  go_loopw [19] (fun i wr => ∃ q : Nat, q ≤ ln ∧ i = .int .i64 q ∧ (∀ x ∈ ns.take q, okN G d cl k x = false) ∧ Mod (fun _ => False) wq1 wr) (fun i _ => ln - (intOf i).toNat)
  case atStart => exact ⟨0, by omega, rfl, (by intro x hx; simp at hx), Mod.refl _ _⟩
  case round =>
    obtain ⟨q, hq, rfl, hno, hmr⟩ := hrel
    obtain ⟨wi, hwo⟩ : ∃ x : World, x = wr := ⟨_, rfl⟩
    subst hwo
    replace HS := Lib.hid (HS.out.step hmr)
    clear hmr
    have HNO := Lib.hid hno
    clear hno
    by_cases hlq : q < ln
    case neg =>
      exfalso
      have hn := HNO.out
      rw [List.take_of_length_le (by rw [HLN.out]; omega)] at hn
      have hf := HFN.out
      have hm2 := List.mem_of_find?_eq_some hf
      have hp := List.find?_some hf
      rw [hn _ hm2] at hp
      cases hp
    case pos =>
      have z0 : decide ((q : Int) < (ln : Int)) = true := by simp; omega
      have hql : q < ns.length := by rw [HLN.out]; exact hlq
      obtain ⟨xq, hxq, hxE⟩ := HIN.out q hql
      have hw := edgeW G hm (xq : Int) ⟨by omega, by omega⟩
      obtain ⟨ua, Hua0⟩ : ∃ qz, (eAt G (xq : Int)).1 = qz := ⟨_, rfl⟩
      have Hua := Lib.hid Hua0
      clear Hua0
      obtain ⟨ub, Hub0⟩ : ∃ qz, (eAt G (xq : Int)).2.1 = qz := ⟨_, rfl⟩
      have Hub := Lib.hid Hub0
      clear Hub0
      obtain ⟨uc, Huc0⟩ : ∃ qz, (eAt G (xq : Int)).2.2 = qz := ⟨_, rfl⟩
      have Huc := Lib.hid Huc0
      clear Huc0
      obtain ⟨dx, HDX0⟩ : ∃ qz, dAt d xq = qz := ⟨_, rfl⟩
      have HDX := Lib.hid HDX0
      clear HDX0
      obtain ⟨bv_, HCB0⟩ : ∃ qz, clB cl (xq : Int) = qz := ⟨_, rfl⟩
      have HCB := Lib.hid HCB0
      clear HCB0
      rw [Huc.out] at hw
      have hw1 := hw.1
      have hw2 := hw.2
      clear hw
      have HXQ := Lib.hid hxq
      clear hxq
      have HOK := Lib.hid (okN_at (G := G) (cl := cl) (e := k) HDX.out HDE.out Huc.out HCB.out)
      obtain ⟨fb, fo, hpl, e0⟩ := rd1 (HS.out.now).2.1 q hql
      have hix := fun wx => run_indexS (P := Try.prog) wx 22 3 iI 1 Try.underlying22 hiI hsI an ln cn q hlq ((HS.out.now).2.1.some_ (by have := hlq; omega))
      rw [hpl] at hix
      have HIf := Lib.hid hix
      clear hix hpl
      rw [HXQ.out] at e0
      replace HS := Lib.hid ((Ev.cell e0).and HS.out)
      clear e0
      have qf := (HS.out.now).1
      have hix := HIf.out
      have qt := ((HS.out.now).2.2.2.2.2.1).blk.cell 0 rfl
      go_wp2_with fail
      refine (edge_ok p B C G _ ((HS.out.now).2.2.2.2.2.1).go xq hxE ua ub uc Hua.out Hub.out Huc.out).mono ?_
      rintro e wq2 ⟨rfl, hmm⟩
      replace HS := Lib.hid (HS.out.step hmm)
      clear hmm
      clear qf hix qt z0
      go_upto_region 5 with fail
      obtain ⟨eb, heb⟩ : ∃ b, wq2.heap.size = b := ⟨_, rfl⟩
      obtain ⟨wq3, hwq3⟩ : ∃ W, World.alloc wq2 (.cells #[.int .i64 ua, .int .i64 ub, .int .i64 uc] 43) = W := ⟨_, rfl⟩
      have hBeb : Blk wq3 eb 43 [.int .i64 ua, .int .i64 ub, .int .i64 uc] := by rw [← hwq3, ← heb]; exact Blk.new _ 43 [.int .i64 ua, .int .i64 ub, .int .i64 uc]
      have hzeb : wq3.heap.size = eb + 1 := by rw [← hwq3, ← heb]; exact heap_size_alloc _ _
      replace HS := Lib.hid (HS.out.step (w' := wq3) (by rw [← hwq3]; exact Mod.alloc _ _ _))
      replace HS := Lib.hid ((Ev.blk hBeb).and HS.out)
      try rw [hwq3]
      try rw [heb]
      clear hzeb hBeb heb hwq3
      have hbeb := (HS.out.now).1
      have qeb_0 := hbeb.cell 0 rfl
      have qeb_1 := hbeb.cell 1 rfl
      have qeb_2 := hbeb.cell 2 rfl
      have leb := hbeb.lt
      clear hbeb
      clear qeb_0 qeb_1 qeb_2 leb
      have HSd := Lib.hid HS.out.drew
      refine wp_region_inv3 (act := ?actls_r5_0) (Mod (fun _ => False)) (fun i => (ls_r5_0_F k n2 cx ax de uc eb).getD i (fun _ _ => True)) (fun i => ls_r5_0_D.getD i []) (by kernel_rfl) (by kernel_rfl) (by kernel_rfl) (by kernel_rfl) (fun _ => Mod.refl _ _)
        (fun _ _ _ h k => h.trans k (fun _ _ e => e) (fun _ _ e => e)) ?hactls_r5_0 (stable_list ?_) ?_ ?_
      case hactls_r5_0 => intro vs; simp only [putAll, Nat.zero_add, Nat.reduceAdd, Act.put, List.setIfInBounds_toArray, List.set_cons_succ, List.set_cons_zero]; exact rfl
      · unfold ls_r5_0_F
        exact stable_cons (stable_val _) <| stable_cons (stable_val _) <| stable_cons (stable_val _) <| stable_cons (stable_val _) <| stable_cons (stable_val _) <| stable_cons (stable_val _) <| stable_cons (stable_val _) <| stable_nil
      · refine opsOkA_cons ?_ ?_
        · intro K vs W hR hD hK
          clear hD
          try dsimp only at hK ⊢
          simp only [Act.put, List.setIfInBounds_toArray, List.set_cons_succ, List.set_cons_zero] at hK
          go_wp2
          exact hK _ _ rfl (Mod.refl _ _)
        refine opsOkA_cons ?_ ?_
        · intro K vs W hR hD hK
          clear hD
          try dsimp only at hK ⊢
          simp only [Act.put, List.setIfInBounds_toArray, List.set_cons_succ, List.set_cons_zero] at hK
          go_wp2
          exact hK _ _ rfl (Mod.refl _ _)
        refine opsOkA_cons ?_ ?_
        · intro K vs W hR hD hK
          have dq0 : vs 0 = .slice ax n2 cx := hD 0 (by decide)
          have dq1 : vs 1 = .int .i64 (k : Int) := hD 1 (by decide)
          clear hD
          try dsimp only at hK ⊢
          simp only [Act.put, List.setIfInBounds_toArray, List.set_cons_succ, List.set_cons_zero] at hK
          generalize vs 0 = vq0 at hK dq0 ⊢
          subst vq0
          generalize vs 1 = vq1 at hK dq1 ⊢
          subst vq1
          go_wp2_with (go_at_call 51; refine (lat_any W ax n2 cx d HDL.out ((HSd.out.at (hR)).2.2.2.2.2.1) k).mono ?_; rintro e' w' ⟨rfl, rfl⟩; rw [HDE.out])
          exact hK _ _ rfl (Mod.refl _ _)
        refine opsOkA_cons ?_ ?_
        · intro K vs W hR hD hK
          clear hD
          try dsimp only at hK ⊢
          simp only [Act.put, List.setIfInBounds_toArray, List.set_cons_succ, List.set_cons_zero] at hK
          go_wp2
          exact hK _ _ rfl (Mod.refl _ _)
        refine opsOkA_cons ?_ ?_
        · intro K vs W hR hD hK
          have dq3 : vs 3 = .pointer (some ⟨eb, 2, none⟩) := hD 3 (by decide)
          clear hD
          try dsimp only at hK ⊢
          simp only [Act.put, List.setIfInBounds_toArray, List.set_cons_succ, List.set_cons_zero] at hK
          generalize vs 3 = vq3 at hK dq3 ⊢
          subst vq3
          have q0 := ((HSd.out.at (hR)).1).cell 2 rfl
          go_wp2
          exact hK _ _ rfl (Mod.refl _ _)
        refine opsOkA_cons ?_ ?_
        · intro K vs W hR hD hK
          have dq2 : vs 2 = .int .i64 de := hD 2 (by decide)
          have dq4 : vs 4 = .int .i64 uc := hD 4 (by decide)
          clear hD
          try dsimp only at hK ⊢
          simp only [Act.put, List.setIfInBounds_toArray, List.set_cons_succ, List.set_cons_zero] at hK
          generalize vs 2 = vq2 at hK dq2 ⊢
          subst vq2
          generalize vs 4 = vq4 at hK dq4 ⊢
          subst vq4
          go_wp2
          exact hK _ _ rfl (Mod.refl _ _)
        refine opsOkA_cons ?_ ?_
        · intro K vs W hR hD hK
          have dq5 : vs 5 = .int .i64 (de - uc) := hD 5 (by decide)
          clear hD
          try dsimp only at hK ⊢
          simp only [Act.put, List.setIfInBounds_toArray, List.set_cons_succ, List.set_cons_zero] at hK
          generalize vs 5 = vq5 at hK dq5 ⊢
          subst vq5
          go_wp2
          exact hK _ _ rfl (Mod.refl _ _)
        exact opsOkA_nil
      · intro vs wq4 hR hF
        have dq6 : vs 6 = .int .i64 (de - uc) := hF 6 (by decide)
        clear hF
        try dsimp only
        generalize vs 6 = vq6 at dq6 ⊢
        subst dq6
        replace HS := Lib.hid (HSd.out.step hR)
        clear HSd hR
        have hbeb := (HS.out.now).1
        have qeb_0 := hbeb.cell 0 rfl
        have qeb_1 := hbeb.cell 1 rfl
        have qeb_2 := hbeb.cell 2 rfl
        have leb := hbeb.lt
        clear hbeb
        by_cases c1 : 0 ≤ de - uc
        case neg =>
          have z1 : decide (0 ≤ de - uc) = false := by simp; omega
          go_wp2_with fail
          go_roundw
          case rel => exact ⟨q + 1, hlq, by go_num, (by intro x hx; rw [List.take_succ_eq_append_getElem hql, HXQ.out] at hx; rcases List.mem_append.1 hx with h | h; exact HNO.out x h; rw [List.mem_singleton.1 h, HOK.out]; rw [Bool.and_eq_false_iff]; by_cases hx0 : 0 ≤ dx; right; exact decide_eq_false (by omega); left; rw [decide_eq_false hx0, Bool.and_false]), (HS.out.now).2.2.1⟩
          case measure => simp [intOf]; omega
        case pos =>
          have z1 : decide (0 ≤ de - uc) = true := by simp; omega
          go_wp2_with fail
          refine (lat_any _ ax n2 cx d HDL.out ((HS.out.now).2.2.2.2.2.1) xq).mono ?_
          rintro e w' ⟨rfl, rfl⟩
          rw [HDX.out]
          by_cases c2 : dx = de - uc
          case neg =>
            have z2 : (dx == de - uc) = false := beq_eq_false_iff_ne.2 c2
            go_wp2_with fail
            go_roundw
            case rel => exact ⟨q + 1, hlq, by go_num, (by intro x hx; rw [List.take_succ_eq_append_getElem hql, HXQ.out] at hx; rcases List.mem_append.1 hx with h | h; exact HNO.out x h; rw [List.mem_singleton.1 h, HOK.out]; rw [Bool.and_eq_false_iff]; right; exact decide_eq_false (by omega)), (HS.out.now).2.2.1⟩
            case measure => simp [intOf]; omega
          case pos =>
            have z2 : (dx == de - uc) = true := by rw [c2]; simp
            have hx0 : 0 ≤ dx := by omega
            have hsum : dx + uc = de := by omega
            have HSUM := Lib.hid hsum
            have HX0 := Lib.hid hx0
            clear c2 hsum hx0
            go_wp2_with fail
            refine (closed_any _ ac nc cc cl HNC.out ((HS.out.now).2.2.2.2.1) (xq : Int)).mono ?_
            rintro e w' ⟨rfl, rfl⟩
            rw [HCB.out]
            cases bv_ with
            | true =>
              go_wp2_with fail
              go_roundw
              case rel => exact ⟨q + 1, hlq, by go_num, (by intro x hx; rw [List.take_succ_eq_append_getElem hql, HXQ.out] at hx; rcases List.mem_append.1 hx with h | h; exact HNO.out x h; rw [List.mem_singleton.1 h, HOK.out]; rfl), (HS.out.now).2.2.1⟩
              case measure => simp [intOf]; omega
            | false =>
              have hp : okN G d cl k ns[q] = true := by rw [HXQ.out, HOK.out, decide_eq_true HX0.out, decide_eq_true HSUM.out]; rfl
              have hf := find_at ns q hql HNO.out hp
              rw [HFN.out, HXQ.out] at hf
              have hjx := Option.some.inj hf
              have HJX := Lib.hid hjx
              clear hp hf hjx
              go_wp2_with fail
              go_ret2
              exact ⟨by rw [HJX.out]; rfl, (HS.out.now).2.2.2.2.2.2.2⟩
end Go.Proofs.Ytgiojfihgdifbaa
namespace Go.Proofs.Ytgiojfihgdifbaa
open Go.RowKit Mile
set_option maxRecDepth 100000
/-- What Along tells. -/
def AlongP (G : GD) (d : List Int) (cl : List Bool) (k : Nat) (w : World) (e : Ending) (w' : World) : Prop :=
  (0 ≤ dAt d k ∧ ∃ a n c, e = .returned (.tuple #[.slice a n c, .bool true]) ∧ (wayN G d cl k).length = n ∧ w'.ownsRow w.heap.size 3 1 (.slice a n c) n ((wayN G d cl k).map (Value.int .i64)) ∧ Mod (fun _ => False) w w') ∨
  (dAt d k < 0 ∧ e = .returned (.tuple #[.slice none 0 0, .bool false]) ∧ Mod (fun _ => False) w w')

set_option maxHeartbeats 16000000 in
theorem lalong_any (t p B C : Nat) (G : GD) (hm : May G) (w : World) (h : TO w t p B C G) (v : Int) (k : Nat) (hkE : k < G.E.length) (ax : Option Addr) (n2 cx : Nat) (d : List Int) (hdl : d.length = n2) (hr : Rd w 1 (.slice ax n2 cx) n2 (d.map (Value.int .i64))) (ac : Option Addr) (nc cc : Nat) (cl : List Bool) (hnc : cl.length = nc) (hcl : Rd w 1 (.slice ac nc cc) nc (cl.map Value.bool)) (hdf : Fix (webTo G hm v cl) d) :
    Calls Try.prog 28 #[.pointer (some ⟨t, 0, none⟩), .int .i64 (k : Int), .slice ax n2 cx, .slice ac nc cc] w (AlongP G d cl k w) := by
  obtain ⟨iI, hiI, hzI, hsI, hbI⟩ := info_parts GR.infoI
  have HDL := Lib.hid hdl
  have HNC := Lib.hid hnc
  have HDF := Lib.hid hdf
  clear hdl hnc hdf
  have HS : Hid (Ev (Mod (fun _ => False) w) w) := Lib.hid (Ev.mod w)
  replace HS := Lib.hid ((Ev.to h).and HS.out)
  replace HS := Lib.hid ((Ev.rd hr).and HS.out)
  replace HS := Lib.hid ((Ev.rd hcl).and HS.out)
  clear h hr hcl
  obtain ⟨de, HDE0⟩ : ∃ qz, dAt d k = qz := ⟨_, rfl⟩
  have HDE := Lib.hid HDE0
  clear HDE0
  have hmo := HDF.out.most (show G.E.length ≤ 512 from hm.1.2.1) k
  have hlo := HDF.out.low k
  rw [HDE.out] at hmo hlo
  obtain ⟨ua, Hua0⟩ : ∃ qz, (eAt G (k : Int)).1 = qz := ⟨_, rfl⟩
  have Hua := Lib.hid Hua0
  clear Hua0
  obtain ⟨ub, Hub0⟩ : ∃ qz, (eAt G (k : Int)).2.1 = qz := ⟨_, rfl⟩
  have Hub := Lib.hid Hub0
  clear Hub0
  obtain ⟨uc, Huc0⟩ : ∃ qz, (eAt G (k : Int)).2.2 = qz := ⟨_, rfl⟩
  have Huc := Lib.hid Huc0
  clear Huc0
  go_enter Try.func28, Try.ntmps28
  have qt := ((HS.out.now).2.2.1).blk.cell 0 rfl
  go_wp2_with fail
  refine (edge_ok p B C G _ ((HS.out.now).2.2.1).go k hkE ua ub uc Hua.out Hub.out Huc.out).mono ?_
  rintro e wq1 ⟨rfl, hmm⟩
  replace HS := Lib.hid (HS.out.step hmm)
  clear hmm
  clear qt
  go_upto_region 4 with fail
  obtain ⟨eb, heb⟩ : ∃ b, wq1.heap.size = b := ⟨_, rfl⟩
  obtain ⟨wq2, hwq2⟩ : ∃ W, World.alloc wq1 (.cells #[.int .i64 ua, .int .i64 ub, .int .i64 uc] 43) = W := ⟨_, rfl⟩
  have hBeb : Blk wq2 eb 43 [.int .i64 ua, .int .i64 ub, .int .i64 uc] := by rw [← hwq2, ← heb]; exact Blk.new _ 43 [.int .i64 ua, .int .i64 ub, .int .i64 uc]
  have hzeb : wq2.heap.size = eb + 1 := by rw [← hwq2, ← heb]; exact heap_size_alloc _ _
  replace HS := Lib.hid (HS.out.step (w' := wq2) (by rw [← hwq2]; exact Mod.alloc _ _ _))
  replace HS := Lib.hid ((Ev.blk hBeb).and HS.out)
  try rw [hwq2]
  try rw [heb]
  clear hzeb hBeb heb hwq2
  have hbeb := (HS.out.now).1
  have qeb_0 := hbeb.cell 0 rfl
  have qeb_1 := hbeb.cell 1 rfl
  have qeb_2 := hbeb.cell 2 rfl
  have leb := hbeb.lt
  clear hbeb
  go_wp2_with fail
  refine (lat_any _ ax n2 cx d HDL.out ((HS.out.now).2.2.1) k).mono ?_
  rintro e w' ⟨rfl, rfl⟩
  rw [HDE.out]
  by_cases c0 : de < 0
  case pos =>
    have z0 : decide (de < 0) = true := by simpa using c0
    go_wp2_with fail
    go_ret2
    exact .inr ⟨by rw [HDE.out]; exact c0, rfl, (HS.out.now).2.2.2.2⟩
  case neg =>
    have z0 : decide (de < 0) = false := by simp; omega
    go_wp2_with fail
    clear z0
    have hsz := ((HS.out.now).2.2.2.2).size
    replace HS := Lib.hid ((Ev.mod wq2).and HS.out)
    go_loopw [1, 12] (fun ev wv wr => ∃ (cur : Nat) (pre : List Int) (n : Nat) (aw : Option Addr) (cw : Nat), ev = .int .i64 cur ∧ wv = .slice aw n cw ∧ pre.length = n ∧ World.ownsRow wr wq2.heap.size 3 1 (.slice aw n cw) n (pre.map (Value.int .i64)) ∧ pre ++ wayN G d cl cur = wayN G d cl k ∧ 0 ≤ dAt d cur ∧ (n : Int) + dAt d cur ≤ de ∧ Mod (fun _ => False) wq2 wr) (fun ev wv _ => (dAt d (intOf ev).toNat).toNat)
    case atStart => exact ⟨k, [], 0, none, 0, rfl, rfl, rfl, World.ownsRow_nil _ _ _ _, rfl, by rw [HDE.out]; omega, by rw [HDE.out]; omega, Mod.refl _ _⟩
    case round =>
      obtain ⟨cur, pre, n, aw, cw, rfl, rfl, hpl, ho, hpw, hc0, hcb, hmr⟩ := hrel
      obtain ⟨wi, hwo⟩ : ∃ x : World, x = wr := ⟨_, rfl⟩
      subst hwo
      replace HS := Lib.hid (HS.out.step hmr)
      clear hmr
      clear qeb_0 qeb_1 qeb_2 leb
      have hbeb := (HS.out.now).2.1
      have qeb_0 := hbeb.cell 0 rfl
      have qeb_1 := hbeb.cell 1 rfl
      have qeb_2 := hbeb.cell 2 rfl
      have leb := hbeb.lt
      clear hbeb
      have HPL := Lib.hid hpl
      have HO := Lib.hid ho
      have HPW := Lib.hid hpw
      clear hpl ho hpw
      replace HS := Lib.hid (((show Ev (fun W => World.ownsRow W wq2.heap.size 3 1 (.slice aw n cw) n (pre.map (Value.int .i64))) wi from fun W mW => Own.keep HO.out mW (fun _ _ e => e))).and HS.out)
      clear qeb_0 qeb_1 qeb_2 leb
      have hbeb := (HS.out.now).2.2.1
      have qeb_0 := hbeb.cell 0 rfl
      have qeb_1 := hbeb.cell 1 rfl
      have qeb_2 := hbeb.cell 2 rfl
      have leb := hbeb.lt
      clear hbeb
      obtain ⟨dc, hdc⟩ : ∃ x, dAt d cur = x := ⟨_, rfl⟩
      have hno := @next_ok G hm v cl d HDF.out cur
      rw [hdc] at hc0 hcb
      have HDC := Lib.hid hdc
      clear hdc
      go_wp2_with fail
      refine (lat_any _ ax n2 cx d HDL.out ((HS.out.now).2.2.2.2.1) cur).mono ?_
      rintro e w' ⟨rfl, rfl⟩
      rw [HDC.out]
      by_cases c1 : 0 < dc
      case neg =>
        have z0 : decide (0 < dc) = false := by simpa using c1
        have hwe := @wayN_end G d cl cur (by rw [HDC.out]; exact c1)
        have hpe : pre = wayN G d cl k := by have h := HPW.out; rw [hwe, List.append_nil] at h; exact h
        have HPE := Lib.hid hpe
        clear hwe hpe hno
        go_wp2_with fail
        go_ret2
        refine .inl ⟨by rw [HDE.out]; omega, aw, n, cw, rfl, by rw [← HPE.out]; exact HPL.out, ?_, (HS.out.now).2.2.2.2.2.2⟩
        rw [← HPE.out]
        exact Own.base ((HS.out.now).1) hsz
      case pos =>
        have z0 : decide (0 < dc) = true := by simpa using c1
        obtain ⟨j, hj, hjE, _, _, hj0, _, hjl⟩ := hno (by rw [HDC.out]; exact c1)
        have hws := wayN_step HDF.out (by rw [HDC.out]; exact c1) hj
        rw [HDC.out] at hjl
        have HJ := Lib.hid hj
        have HWS := Lib.hid hws
        clear hws
        go_wp2_with fail
        refine (lstep_any t p B C G hm _ ((HS.out.now).2.2.2.2.2.1) v cur ax n2 cx d HDL.out ((HS.out.now).2.2.2.2.1) ac nc cc cl HNC.out ((HS.out.now).2.2.2.1) HDF.out j HJ.out).mono ?_
        rintro e wq3 ⟨rfl, hst⟩
        replace HS := Lib.hid (HS.out.step hst)
        clear hst
        clear z0 hj
        have ho := (HS.out.now).1
        have hmq := (HS.out.now).2.1
        have hoa := fun o => Own.base (Own.keep ho (Mod.alloc (fun _ => False) wq3 o) (fun _ _ e => e)) (Nat.zero_le _)
        have hb1 : n + 1 ≤ maxLen := by unfold maxLen; omega
        go_wp2_with (at_builtin; refine wpList_append_any rfl (.tmp 48) (.tmp 50) 22 rfl 3 iI (.int .i64 0) 1 8 Try.underlying22 hiI hzI hsI hbI rfl (by decide) _ n (pre.map (Value.int .i64)) rfl (hoa _) _ 1 [.int .i64 (j : Int)] rfl (Rd.lit _ _ _ _ 1 rfl rfl (by decide)) (by intro u hu; simp at hu; subst hu; rfl) hb1 (by omega) ?_; intro v4 w4 hap)
        obtain ⟨a4, c4, rfl⟩ := hap.form
        have ho4 := hap.own
        have lo4 := hap.low (B := wq2.heap.size) (by have h1 := hmq.size; simp; omega) (fun k hk => (ho.lt k hk).1)
        have hm4 := (hmq.thenAlloc _).old hap.mod (fun i hi => (ho.lt i hi).1)
        have ho5 := Own.rebase ho4 lo4
        have HO5 := Lib.hid ho5
        have HM4 := Lib.hid hm4
        clear hap ho4 lo4 hm4 ho5 ho hmq hoa
        clear qeb_0 qeb_1 qeb_2 leb
        go_wp2_with fail
        go_roundw
        case rel => exact ⟨j, pre ++ [(j : Int)], n + 1, a4, c4, rfl, rfl, by rw [List.length_append, HPL.out]; rfl, by rw [List.map_append]; exact HO5.out, by rw [← HPW.out, HWS.out, List.append_assoc]; rfl, hj0, by omega, HM4.out⟩
        case measure => have h := HDC.out; simp [intOf]; omega
end Go.Proofs.Ytgiojfihgdifbaa
namespace Go.Proofs.Ytgiojfihgdifbaa
open Go.RowKit Mile
set_option maxRecDepth 100000

set_option maxHeartbeats 8000000 in
theorem lalong_out (t p B C : Nat) (G : GD) (w : World) (h : TO w t p B C G) (ev : Int) (hev : ¬ (0 ≤ ev ∧ ev < (G.E.length : Int))) (ax : Option Addr) (n2 cx : Nat) (ac : Option Addr) (nc cc : Nat) :
    Calls Try.prog 28 #[.pointer (some ⟨t, 0, none⟩), .int .i64 ev, .slice ax n2 cx, .slice ac nc cc] w fun e w' => e = .returned (.tuple #[.slice none 0 0, .bool false]) ∧ Mod (fun _ => False) w w' := by
  have HS : Hid (Ev (Mod (fun _ => False) w) w) := Lib.hid (Ev.mod w)
  replace HS := Lib.hid ((Ev.to h).and HS.out)
  clear h
  go_enter Try.func28, Try.ntmps28
  have qt := ((HS.out.now).1).blk.cell 0 rfl
  go_wp2_with fail
  refine (edge_out p B C G _ ((HS.out.now).1).go ev hev).mono ?_
  rintro e wq1 ⟨rfl, hmm⟩
  replace HS := Lib.hid (HS.out.step hmm)
  clear hmm
  clear qt
  go_upto_region 4 with fail
  obtain ⟨eb, heb⟩ : ∃ b, wq1.heap.size = b := ⟨_, rfl⟩
  obtain ⟨wq2, hwq2⟩ : ∃ W, World.alloc wq1 (.cells #[.int .i64 0, .int .i64 0, .int .i64 0] 43) = W := ⟨_, rfl⟩
  have hBeb : Blk wq2 eb 43 [.int .i64 0, .int .i64 0, .int .i64 0] := by rw [← hwq2, ← heb]; exact Blk.new _ 43 [.int .i64 0, .int .i64 0, .int .i64 0]
  have hzeb : wq2.heap.size = eb + 1 := by rw [← hwq2, ← heb]; exact heap_size_alloc _ _
  replace HS := Lib.hid (HS.out.step (w' := wq2) (by rw [← hwq2]; exact Mod.alloc _ _ _))
  replace HS := Lib.hid ((Ev.blk hBeb).and HS.out)
  try rw [hwq2]
  try rw [heb]
  clear hzeb hBeb heb hwq2
  have hbeb := (HS.out.now).1
  have qeb_0 := hbeb.cell 0 rfl
  have qeb_1 := hbeb.cell 1 rfl
  have qeb_2 := hbeb.cell 2 rfl
  have leb := hbeb.lt
  clear hbeb
  go_wp2_with fail
  go_ret2
  exact ⟨rfl, (HS.out.now).2.2⟩
set_option maxHeartbeats 8000000 in
theorem lalong_neg (t p B C : Nat) (G : GD) (w : World) (h : TO w t p B C G) (k : Nat) (hkE : k < G.E.length) (ax : Option Addr) (n2 cx : Nat) (d : List Int) (hdl : d.length = n2) (hr : Rd w 1 (.slice ax n2 cx) n2 (d.map (Value.int .i64))) (hneg : dAt d k < 0) (ac : Option Addr) (nc cc : Nat) :
    Calls Try.prog 28 #[.pointer (some ⟨t, 0, none⟩), .int .i64 (k : Int), .slice ax n2 cx, .slice ac nc cc] w fun e w' => e = .returned (.tuple #[.slice none 0 0, .bool false]) ∧ Mod (fun _ => False) w w' := by
  have HDL := Lib.hid hdl
  clear hdl
  have HS : Hid (Ev (Mod (fun _ => False) w) w) := Lib.hid (Ev.mod w)
  replace HS := Lib.hid ((Ev.to h).and HS.out)
  replace HS := Lib.hid ((Ev.rd hr).and HS.out)
  clear h hr
  obtain ⟨de, HDE0⟩ : ∃ qz, dAt d k = qz := ⟨_, rfl⟩
  have HDE := Lib.hid HDE0
  clear HDE0
  rw [HDE.out] at hneg
  obtain ⟨ua, Hua0⟩ : ∃ qz, (eAt G (k : Int)).1 = qz := ⟨_, rfl⟩
  have Hua := Lib.hid Hua0
  clear Hua0
  obtain ⟨ub, Hub0⟩ : ∃ qz, (eAt G (k : Int)).2.1 = qz := ⟨_, rfl⟩
  have Hub := Lib.hid Hub0
  clear Hub0
  obtain ⟨uc, Huc0⟩ : ∃ qz, (eAt G (k : Int)).2.2 = qz := ⟨_, rfl⟩
  have Huc := Lib.hid Huc0
  clear Huc0
  go_enter Try.func28, Try.ntmps28
  have qt := ((HS.out.now).2.1).blk.cell 0 rfl
  go_wp2_with fail
  refine (edge_ok p B C G _ ((HS.out.now).2.1).go k hkE ua ub uc Hua.out Hub.out Huc.out).mono ?_
  rintro e wq1 ⟨rfl, hmm⟩
  replace HS := Lib.hid (HS.out.step hmm)
  clear hmm
  clear qt
  go_upto_region 4 with fail
  obtain ⟨eb, heb⟩ : ∃ b, wq1.heap.size = b := ⟨_, rfl⟩
  obtain ⟨wq2, hwq2⟩ : ∃ W, World.alloc wq1 (.cells #[.int .i64 ua, .int .i64 ub, .int .i64 uc] 43) = W := ⟨_, rfl⟩
  have hBeb : Blk wq2 eb 43 [.int .i64 ua, .int .i64 ub, .int .i64 uc] := by rw [← hwq2, ← heb]; exact Blk.new _ 43 [.int .i64 ua, .int .i64 ub, .int .i64 uc]
  have hzeb : wq2.heap.size = eb + 1 := by rw [← hwq2, ← heb]; exact heap_size_alloc _ _
  replace HS := Lib.hid (HS.out.step (w' := wq2) (by rw [← hwq2]; exact Mod.alloc _ _ _))
  replace HS := Lib.hid ((Ev.blk hBeb).and HS.out)
  try rw [hwq2]
  try rw [heb]
  clear hzeb hBeb heb hwq2
  have hbeb := (HS.out.now).1
  have qeb_0 := hbeb.cell 0 rfl
  have qeb_1 := hbeb.cell 1 rfl
  have qeb_2 := hbeb.cell 2 rfl
  have leb := hbeb.lt
  clear hbeb
  go_wp2_with fail
  refine (lat_any _ ax n2 cx d HDL.out ((HS.out.now).2.1) k).mono ?_
  rintro e w' ⟨rfl, rfl⟩
  rw [HDE.out]
  have z0 : decide (de < 0) = true := by simpa using hneg
  go_wp2_with fail
  go_ret2
  exact ⟨rfl, (HS.out.now).2.2.2⟩
/-- Is l the least way from e to v? -/
def WayL (G : GD) (hm : May G) (v : Int) (cl : List Bool) (ev : Int) (r : Option (List Int)) : Prop :=
  (((0 ≤ v ∧ v < (G.N.length : Int)) ∧ (0 ≤ ev ∧ ev < (G.E.length : Int))) ∧ ∃ d, Fix (webTo G hm v cl) d ∧ r = if 0 ≤ dAt d ev.toNat then some (wayN G d cl ev.toNat) else none) ∨ (¬ ((0 ≤ v ∧ v < (G.N.length : Int)) ∧ (0 ≤ ev ∧ ev < (G.E.length : Int))) ∧ r = none)
theorem WayL.uniq {G : GD} {hm : May G} {v : Int} {cl : List Bool} {ev : Int} {r s : Option (List Int)} (h : WayL G hm v cl ev r) (k : WayL G hm v cl ev s) : r = s := by
  rcases h with ⟨h1, d, h2, h3⟩ | ⟨h1, h2⟩ <;> rcases k with ⟨k1, d', k2, k3⟩ | ⟨k1, k2⟩
  · rw [h3, k3, h2.uniq k2]
  · exact absurd h1 k1
  · exact absurd k1 h1
  · rw [h2, k2]

end Go.Proofs.Ytgiojfihgdifbaa
namespace Go.Proofs.Ytgiojfihgdifbaa
open Go.RowKit Mile
set_option maxRecDepth 100000
/-- What Way tells. -/
def WayP (G : GD) (hm : May G) (v : Int) (cl : List Bool) (ev : Int) (w : World) (e : Ending) (w' : World) : Prop :=
  ∃ r, WayL G hm v cl ev r ∧ ∃ a n c, e = .returned (.tuple #[.slice a n c, .bool r.isSome]) ∧ (r.getD []).length = n ∧ Rd w' 1 (.slice a n c) n ((r.getD []).map (Value.int .i64)) ∧ Mod (fun _ => False) w w'
set_option maxHeartbeats 4000000 in
theorem lway_any (t p B C : Nat) (G : GD) (hm : May G) (w : World) (h : TO w t p B C G) (ev v : Int) (a : Option Addr) (n c : Nat) (cl : List Bool) (hn : cl.length = n) (hr : Rd w 1 (.slice a n c) n (cl.map Value.bool)) :
    Calls Try.prog 26 #[.pointer (some ⟨t, 0, none⟩), .int .i64 ev, .int .i64 v, .slice a n c] w (WayP G hm v cl ev w) := by
  have HT := Lib.hid h
  have HR := Lib.hid hr
  have HN := Lib.hid hn
  clear h hr hn
  go_enter Try.func26, Try.ntmps26
  go_wp2_with fail
  refine (dto_far t p B C G hm w HT.out v a n c cl HN.out HR.out).mono ?_
  rintro e w1 ⟨x, rfl, ⟨a2, nf, c2, xs, rfl, h1, h2, h3, hT⟩, hm1⟩
  have HT1 := Lib.hid (HT.out.keep hm1)
  have HR1 := Lib.hid (HR.out.keep hm1 (fun _ _ e => e))
  have HM1 := Lib.hid hm1
  have HX := Lib.hid h3
  have HXL := Lib.hid h1
  have HTF := Lib.hid hT
  clear h1 h2 h3 hT hm1 HT HR
  by_cases he : 0 ≤ ev ∧ ev < (G.E.length : Int)
  case neg =>
    have HE := Lib.hid he
    clear he
    go_wp2_with fail
    refine (lalong_out t p B C G w1 HT1.out ev HE.out a2 nf c2 a n c).mono ?_
    rintro e w2 ⟨rfl, hm2⟩
    have HM2 := Lib.hid (HM1.out.of2 hm2)
    clear hm2
    go_wp2_with fail
    go_ret2
    exact ⟨none, .inr ⟨fun x => HE.out x.2, rfl⟩, none, 0, 0, rfl, rfl, Rd.nil _ _, HM2.out⟩
  case pos =>
    have he2 := he.2
    obtain ⟨k, hk⟩ := Int.eq_ofNat_of_zero_le he.1
    subst hk
    have hkE : k < G.E.length := by omega
    have HE := Lib.hid he
    clear he he2
    by_cases h0 : 0 ≤ dAt xs k
    case neg =>
      have H0 := Lib.hid h0
      clear h0
      go_wp2_with fail
      refine (lalong_neg t p B C G w1 HT1.out k hkE a2 nf c2 xs HXL.out HX.out (by have := H0.out; omega) a n c).mono ?_
      rintro e w2 ⟨rfl, hm2⟩
      have HM2 := Lib.hid (HM1.out.of2 hm2)
      clear hm2
      go_wp2_with fail
      go_ret2
      refine ⟨none, ?_, none, 0, 0, rfl, rfl, Rd.nil _ _, HM2.out⟩
      rcases HTF.out with ⟨hv, hf⟩ | ⟨hv, _⟩
      · exact .inl ⟨⟨hv, HE.out⟩, xs, hf, by rw [Int.toNat_natCast, if_neg (by have := H0.out; omega)]⟩
      · exact .inr ⟨fun x => hv x.1, rfl⟩
    case pos =>
      rcases HTF.out with ⟨hv, hf⟩ | ⟨_, hx⟩
      case inr => rw [hx] at h0; exact absurd h0 (by rw [dAt_out [] k (by simp)]; decide)
      case inl =>
        have HV := Lib.hid hv
        have HF := Lib.hid hf
        have H0 := Lib.hid h0
        clear hv hf h0
        go_wp2_with fail
        refine (lalong_any t p B C G hm w1 HT1.out v k hkE a2 nf c2 xs HXL.out HX.out a n c cl HN.out HR1.out HF.out).mono ?_
        rintro e w2 (⟨_, a3, n3, c3, rfl, hl, ho, hm2⟩ | ⟨hx, _, _⟩)
        case inr => exact absurd H0.out (by omega)
        case inl =>
          have HL := Lib.hid hl
          have HO := Lib.hid (Rd.ofOwn ho)
          have HM2 := Lib.hid (HM1.out.of2 hm2)
          clear hl ho hm2
          go_wp2_with fail
          go_ret2
          exact ⟨some (wayN G xs cl k), .inl ⟨⟨HV.out, HE.out⟩, xs, HF.out, by rw [Int.toNat_natCast, if_pos H0.out]⟩, a3, n3, c3, rfl, HL.out, HO.out, HM2.out⟩
end Go.Proofs.Ytgiojfihgdifbaa
namespace Go.Proofs.Ytgiojfihgdifbaa
open Go.RowKit Mile
theorem close_le {G : GD} {hm : May G} {v : Int} {cl : List Bool} {d d' : List Int} (h : Fix (webTo G hm v []) d) (h' : Fix (webTo G hm v cl) d') (k : Nat) (hk : 0 ≤ dAt d' k) : 0 ≤ dAt d k ∧ dAt d k ≤ dAt d' k :=
  h'.le h rfl (fun _ e => e) (fun e b hr => ⟨⟨hr.1, by simp [clB]⟩, rfl⟩) (dAt d' k).toNat k hk (by omega)
theorem find_same {α : Type} (p q : α → Bool) : ∀ (l : List α) (x : α), (∀ y ∈ l, q y = true → p y = true) → l.find? p = some x → q x = true → l.find? q = some x
  | [], _, _, hf, _ => by cases hf
  | y :: l, x, h, hf, hq => by
    rw [List.find?_cons] at hf ⊢
    cases hp : p y with
    | true =>
      rw [hp] at hf
      have := Option.some.inj hf
      subst this
      rw [hq]
    | false =>
      rw [hp] at hf
      have hqy : q y = false := by
        cases hqy : q y with
        | false => rfl
        | true => rw [h y (by simp) hqy] at hp; cases hp
      rw [hqy]
      exact find_same p q l x (fun z hz => h z (by simp [hz])) hf hq
theorem find_first (p : Int → Bool) : ∀ (l : List Int) (k : Int), l.Pairwise (· < ·) → l.find? p = some k → ∀ y ∈ l, y < k → p y = false
  | [], _, _, hf, _, hy, _ => by cases hy
  | x :: l, k, hs, hf, y, hy, hlt => by
    rw [List.find?_cons] at hf
    obtain ⟨h1, h2⟩ := List.pairwise_cons.1 hs
    cases hp : p x with
    | true =>
      rw [hp] at hf
      have := Option.some.inj hf
      subst this
      rcases List.mem_cons.1 hy with rfl | hy
      · omega
      · have := h1 y hy; omega
    | false =>
      rw [hp] at hf
      rcases List.mem_cons.1 hy with rfl | hy
      · exact hp
      · exact find_first p l k h2 hf y hy hlt
theorem nxtR_rise (G : GD) (e : Int) : (nxtR G e).Pairwise (· < ·) := by
  unfold nxtR
  refine List.Pairwise.map _ (fun a b (h : a < b) => ?_) ((List.pairwise_lt_range).filter _)
  show (a : Int) < (b : Int)
  omega
theorem dAt_in2 {d : List Int} {e : Nat} (h : 0 ≤ dAt d e) : e < d.length := by
  by_cases hc : e < d.length
  · exact hc
  · have := dAt_out d e (by omega); omega
theorem nxt_at {G : GD} {e : Int} {y : Int} (h : y ∈ nxtR G e) : ∃ j : Nat, y = (j : Int) ∧ j < G.E.length ∧ turnB G e (j : Int) = true := by
  unfold nxtR at h
  obtain ⟨k, hk, hbk⟩ := List.mem_map.1 h
  obtain ⟨h1, h2⟩ := List.mem_filter.1 hk
  exact ⟨k, hbk.symm, List.mem_range.1 h1, h2⟩
/-- With edges closed that are not on it the way stays as it is. -/
theorem way_same {G : GD} {hm : May G} {v : Int} {cl : List Bool} {d d' : List Int} (h : Fix (webTo G hm v []) d) (h' : Fix (webTo G hm v cl) d') : ∀ (n : Nat) (e : Nat), 0 ≤ dAt d e → (dAt d e).toNat ≤ n → (∀ x ∈ wayN G d [] e, clB cl x = false) → dAt d' e = dAt d e ∧ wayN G d' cl e = wayN G d [] e := by
  intro n
  induction n using Nat.strongRecOn with
  | ind n ih =>
    intro e he hn hc
    by_cases h0 : 0 < dAt d e
    · obtain ⟨k, hk, hke, ht, _, hd0, hw, hlt⟩ := next_ok h h0
      have hws := wayN_step h h0 hk
      rw [hws] at hc
      have hck := hc (k : Int) (by simp)
      obtain ⟨i1, i2⟩ := ih (n - 1) (by omega) k hd0 (by omega) (fun x hx => hc x (by simp [hx]))
      have hs := h'.shut e k ⟨ht, hck⟩ (by omega)
      have e2 : (webTo G hm v cl).wt e k = (eAt G (k : Int)).2.2 := rfl
      rw [e2] at hs
      have hcl := close_le h h' e hs.1
      have hde : dAt d' e = dAt d e := by omega
      refine ⟨hde, ?_⟩
      have hnx : nextN G d' cl e = some (k : Int) := by
        refine find_same (okN G d [] e) (okN G d' cl e) _ _ (fun y hy hq => ?_) hk (okN_iff.2 ⟨⟨hck, by rw [Int.toNat_natCast]; omega⟩, by unfold viaN; rw [Int.toNat_natCast]; omega⟩)
        obtain ⟨j, rfl, hjE, hjt⟩ := nxt_at hy
        obtain ⟨⟨_, g2⟩, g3⟩ := okN_iff.1 hq
        unfold viaN at g3
        rw [Int.toNat_natCast] at g2 g3
        have hcj := close_le h h' j g2
        have hsj := h.shut e j ⟨hjt, by simp [clB]⟩ hcj.1
        have e3 : (webTo G hm v []).wt e j = (eAt G (j : Int)).2.2 := rfl
        rw [e3] at hsj
        exact okN_iff.2 ⟨⟨by simp [clB], by rw [Int.toNat_natCast]; omega⟩, by unfold viaN; rw [Int.toNat_natCast]; omega⟩
      rw [wayN_step h' (by omega) hnx, hws, i2]
    · have hz : dAt d e = 0 := by omega
      have hst : (webTo G hm v []).st e := by
        rcases h.why e he with ⟨h1, _⟩ | ⟨b, h1, h2, h3⟩
        · exact h1
        · have := ((webTo G hm v []).one e b h1).1; omega
      have hz' : dAt d' e = 0 := h'.st e hst (by have := dAt_in2 he; rw [h.len] at this; exact this)
      exact ⟨by omega, by rw [wayN_end h0, wayN_end (by omega)]⟩
/-- Where there is no way with nothing closed there is none with more closed. -/
theorem none_more {G : GD} {hm : May G} {v : Int} {cl : List Bool} {d d' : List Int} (h : Fix (webTo G hm v []) d) (h' : Fix (webTo G hm v cl) d') (e : Nat) (hn : ¬ 0 ≤ dAt d e) : ¬ 0 ≤ dAt d' e :=
  fun x => hn (close_le h h' e x).1
/-- Whoever leaves the way by a lesser number goes farther. -/
theorem way_first {G : GD} {hm : May G} {v : Int} {d : List Int} (h : Fix (webTo G hm v []) d) {e k : Nat} (hk : nextN G d [] e = some (k : Int)) {y : Int} (hy : y ∈ nxtR G (e : Int)) (hlt : y < (k : Int)) (h0 : 0 ≤ dAt d y.toNat) : dAt d e < dAt d y.toNat + (eAt G y).2.2 := by
  have hf := find_first (okN G d [] e) _ _ (nxtR_rise G (e : Int)) hk y hy hlt
  obtain ⟨j, rfl, hjE, hjt⟩ := nxt_at hy
  rw [Int.toNat_natCast] at h0 ⊢
  have hsj := h.shut e j ⟨hjt, by simp [clB]⟩ h0
  have e3 : (webTo G hm v []).wt e j = (eAt G (j : Int)).2.2 := rfl
  rw [e3] at hsj
  by_cases hc : dAt d e < dAt d j + (eAt G (j : Int)).2.2
  · exact hc
  · exfalso
    have : okN G d [] e (j : Int) = true := okN_iff.2 ⟨⟨by simp [clB], by rw [Int.toNat_natCast]; omega⟩, by unfold viaN; rw [Int.toNat_natCast]; omega⟩
    rw [this] at hf; cases hf
/-- No edge is twice in a way. -/
theorem way_nodup {G : GD} {hm : May G} {v : Int} {cl : List Bool} {d : List Int} (h : Fix (webTo G hm v cl) d) : ∀ (n : Nat) (e : Nat), 0 ≤ dAt d e → (dAt d e).toNat ≤ n → (wayN G d cl e).Nodup := by
  intro n
  induction n using Nat.strongRecOn with
  | ind n ih =>
    intro e he hn
    by_cases h0 : 0 < dAt d e
    · obtain ⟨k, hk, hke, ht, _, hd0, hw, hlt⟩ := next_ok h h0
      rw [wayN_step h h0 hk]
      refine List.nodup_cons.2 ⟨fun hx => ?_, ih (n - 1) (by omega) k hd0 (by omega)⟩
      obtain ⟨j, hj, j1, j2⟩ := (wayN_walk h (dAt d k).toNat k hd0 (Nat.le_refl _)).2.2.2.2.2 _ hx
      have : k = j := by omega
      subst this
      omega
    · rw [wayN_end h0]; exact List.nodup_nil
/-- What is left of a way is the way from there. -/
theorem way_drop {G : GD} {hm : May G} {v : Int} {cl : List Bool} {d : List Int} (h : Fix (webTo G hm v cl) d) : ∀ (i : Nat) (e : Nat), 0 ≤ dAt d e → (hi : i < (wayN G d cl e).length) → ∃ k : Nat, (wayN G d cl e)[i] = (k : Int) ∧ k < G.E.length ∧ 0 ≤ dAt d k ∧ clB cl (k : Int) = false ∧ (wayN G d cl e).drop (i + 1) = wayN G d cl k
  | i, e, he, hi => by
    by_cases h0 : 0 < dAt d e
    · obtain ⟨k, hk, hke, ht, hc, hd0, hw, hlt⟩ := next_ok h h0
      have hs := wayN_step h h0 hk
      cases i with
      | zero => exact ⟨k, by simp [hs], hke, hd0, hc, by rw [hs]; rfl⟩
      | succ i =>
        have hi2 : i < (wayN G d cl k).length := by rw [hs] at hi; simpa using hi
        obtain ⟨j, j1, j2, j3, j4, j5⟩ := way_drop h i k hd0 hi2
        exact ⟨j, by rw [← j1]; simp [hs], j2, j3, j4, by rw [hs, ← j5]; rfl⟩
    · rw [wayN_end h0] at hi; cases hi
theorem way_len {G : GD} {hm : May G} {v : Int} {cl : List Bool} {d : List Int} (h : Fix (webTo G hm v cl) d) (e : Nat) (he : 0 ≤ dAt d e) : (wayN G d cl e).length ≤ 512 := by
  have hin : ∀ x ∈ wayN G d cl e, x ∈ (List.range G.E.length).map Int.ofNat := fun x hx => by
    have h1 := wlk_all G _ _ (wayN_walk h _ e he (Nat.le_refl _)).1
    unfold allE at h1
    have hx2 := of_decide_eq_true (List.all_eq_true.1 h1 x hx)
    obtain ⟨k, rfl⟩ := Int.eq_ofNat_of_zero_le hx2.1
    exact List.mem_map.2 ⟨k, List.mem_range.2 (by omega), rfl⟩
  have h1 := nodup_length (wayN G d cl e) ((List.range G.E.length).map Int.ofNat) (way_nodup h _ e he (Nat.le_refl _)) hin
  rw [List.length_map, List.length_range] at h1
  have := hm.1.2.1
  omega
theorem WayL.len {G : GD} {hm : May G} {v : Int} {cl : List Bool} {ev : Int} {r : Option (List Int)} (h : WayL G hm v cl ev r) : (r.getD []).length ≤ 512 := by
  rcases h with ⟨_, d, hf, rfl⟩ | ⟨_, rfl⟩
  · split
    · rename_i h0; exact way_len hf _ h0
    · exact Nat.zero_le _
  · exact Nat.zero_le _
/-- The way between two places of a graph. -/
theorem WayL.at {G : GD} {hm : May G} {v : Int} {cl : List Bool} {k : Nat} {r : Option (List Int)} {d : List Int} (h : WayL G hm v cl (k : Int) r) (hv : 0 ≤ v ∧ v < (G.N.length : Int)) (hk : k < G.E.length) (hd : Fix (webTo G hm v cl) d) : r = if 0 ≤ dAt d k then some (wayN G d cl k) else none := by
  rcases h with ⟨_, d', hf, rfl⟩ | ⟨h, _⟩
  · rw [hf.uniq hd, Int.toNat_natCast]
  · exact absurd ⟨hv, by omega, by omega⟩ h
end Go.Proofs.Ytgiojfihgdifbaa
