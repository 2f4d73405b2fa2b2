/- The document's own Unpack, by contract. -/
import Derived.Test.YtjjedebjbgpimaaGreatUnP
import Derived.Test.YtjjedebjbgpimaaGreatLvR3
import Derived.OwnWalk
namespace Go.Proofs.YtjjedebjbgpimaaGreat
open Go.RowKit Mile
set_option maxRecDepth 100000
theorem find_case17 {L : List Ar} (hs : SortN L) (f t : Int) : (∃ b, findN L f t = some b ∧ isN L ⟨f, t, 0, 0⟩ = true ∧ posN L ⟨f, t, 0, 0⟩ < L.length ∧ L[posN L ⟨f, t, 0, 0⟩]? = some b) ∨ (findN L f t = none ∧ isN L ⟨f, t, 0, 0⟩ = false) := by
 by_cases he : eqN L ⟨f, t, 0, 0⟩ = []
 ·
  right
  refine ⟨findN_none fun b hb e => ?_, decide_eq_false (fun h => h he)⟩
  have := List.filter_eq_nil_iff.1 he b hb
  simp at this
  exact this e.1 e.2
 ·
  left
  obtain ⟨b, h1, h2, h3, _⟩ := eqN_one hs he
  have hb : b ∈ eqN L ⟨f, t, 0, 0⟩ := by rw [h1]; exact List.mem_singleton.2 rfl
  unfold eqN at hb
  rw [List.mem_filter] at hb
  have e := of_decide_eq_true hb.2
  simp only at e
  refine ⟨b, ?_, decide_eq_true he, h2, h3⟩
  rw [← e.1, ← e.2]
  exact findN_some hs hb.1
def RuP (T : List Ar) (k : Nat) (f t : Int) (w : World) (e : Ending) (w' : World) : Prop :=
 ∃ r ax cx, unL T k f t = some r ∧ 2 ≤ r.length ∧ e = .returned (.tuple #[.slice ax r.length cx, .bool true]) ∧ w'.ownsRow w.heap.size 3 1 (.slice ax r.length cx) r.length (r.map (Value.int .i64)) ∧ Mod (fun _ => False) w w'
set_option maxHeartbeats 8000000 in
theorem rup_any {n N : Nat} {L T : List Ar} {D : Ar → Nat} (hT : NetOk n T) (hL : NetOk n L) (hD : UnOk T D N) (hN : N ≤ 20) (hin : ∀ a ∈ T, a.m < 0 → a ∈ L) (hb : T.length ≤ 100000) (p2 tq rd : Nat) (V : List Nat) : ∀ (k : Nat) (w : World), RL w p2 tq rd n T V → ∀ a ∈ T, D a < k →
  Calls Tryz.prog 34 #[.pointer (some ⟨p2, 0, none⟩), .int .i64 a.f, .int .i64 a.t] w (RuP T (N + 1) a.f a.t w) := by
 obtain ⟨iA, hiA, hzA, hsA, hbA⟩ := info_parts Nt.infoA
 obtain ⟨iI, hiI, hzI, hsI, hbI⟩ := info_parts Nt.infoI
 intro k
 induction k with
 | zero => intro w _ a _ h; omega
 | succ k ih =>
  intro w hrl a ha hk
  obtain ⟨r, u1, u2, u3, u4, u5, u6, u7⟩ := un_row hT hL hD hin (k + 1) a ha hk
  have hf := findN_some hT.sort ha
  obtain ⟨c1, c2, c3, c4⟩ : isN T ⟨a.f, a.t, 0, 0⟩ = true ∧ posN T ⟨a.f, a.t, 0, 0⟩ < T.length ∧ T[posN T ⟨a.f, a.t, 0, 0⟩]? = some a ∧ True := by
   rcases find_case17 hT.sort a.f a.t with ⟨b, g1, g2, g3, g4⟩ | ⟨g1, _⟩
   ·
    rw [hf] at g1; cases g1; exact ⟨g2, g3, g4, trivial⟩
   ·
    rw [hf] at g1; cases g1
  obtain ⟨i, hi⟩ : ∃ y, posN T ⟨a.f, a.t, 0, 0⟩ = y := ⟨_, rfl⟩
  rw [hi] at c2 c3
  have hfd := fun (W : World) (h : RN W tq n T) => rn_find h hT.sort hb a.f a.t
  rw [hi, c1] at hfd
  have HFD := Lib.hid hfd
  have HRL := Lib.hid hrl
  have x0 := hrl.blk.cell 0 rfl
  clear hfd hrl
  go_enter Tryz.func34, Tryz.ntmps34
  go_wp2_with fail
  refine (HFD.out w HRL.out.net).mono ?_
  rintro e w1 ⟨rfl, hm1⟩
  have hr1 := HRL.out.later hm1
  obtain ⟨la, lc, nb, nr, _⟩ := id hr1.net
  have y0 := hr1.blk.cell 0 rfl
  have y1 := nb.cell 1 rfl
  obtain ⟨lT, hlT⟩ : ∃ y, T.length = y := ⟨_, rfl⟩
  have hit : i < T.length := c2
  have hTi : T[i] = a := by rw [List.getElem?_eq_getElem hit] at c3; exact Option.some.inj c3
  rw [hlT] at nr y1 c2
  obtain ⟨eb, eo, hpe, e0, e1, e2, e3⟩ := rd4 nr i hit
  have hix := fun wx => run_indexS (P := Tryz.prog) wx 34 50 iA 4 Tryz.underlying34 hiA hsA la lT lc i c2 (nr.some_ (by omega))
  rw [hpe] at hix
  rw [hTi] at e0 e1 e2 e3
  obtain ⟨g, hg⟩ : ∃ y, w1.heap.size = y := ⟨_, rfl⟩
  obtain ⟨w2, hw2⟩ : ∃ y, w1.alloc (.cells #[.int .i64 a.f, .int .i64 a.t, .int .i64 a.w, .int .i64 a.m] 50) = y := ⟨_, rfl⟩
  have hm2 : Mod (fun _ => False) w1 w2 := by rw [← hw2]; exact Mod.alloc _ _ _
  have hb2 : Blk w2 g 50 [.int .i64 a.f, .int .i64 a.t, .int .i64 a.w, .int .i64 a.m] := by rw [← hw2, ← hg]; exact Blk.new w1 50 _
  have b3 := hb2.cell 3 rfl
  have H2 := Lib.hid (And.intro (hm1.of2 hm2) (And.intro hb2 hf))
  clear hm1 hr1 nb nr hm2 hb2 hpe hit c3 hTi hf
  go_upto_region 5 with fail
  (try rw [hw2])
  (try rw [hg])
  by_cases hm : a.m < 0
  ·
   have z1 : decide (a.m < 0) = true := decide_eq_true hm
   go_wp2_with fail
   go_ret2
   have hun : unL T (N + 1) a.f a.t = some [a.f, a.t] := by unfold unL; rw [H2.out.2.2]; simp only; rw [if_pos hm]
   have h0 := H2.out.1.size
   exact ⟨[a.f, a.t], _, _, hun, Nat.le_refl _, rfl, World.ownsRow_lit (base := w.heap.size) (e := 3) (size := 1) w2 #[.int .i64 a.f, .int .i64 a.t] 2 h0 (by unfold maxLen; omega) rfl, H2.out.1.of2 (Mod.alloc _ _ _)⟩
  ·
   have z1 : decide (a.m < 0) = false := decide_eq_false hm
   obtain ⟨p, hp, q, hq, g1, g2, g3, g4, g5, g6, g7⟩ := (hD a ha).2 (by omega)
   have hDa := (hD a ha).1
   have HI1 := Lib.hid (fun W (h : RL W p2 tq rd n T V) => ih W h p hp (by omega))
   have HI2 := Lib.hid (fun W (h : RL W p2 tq rd n T V) => ih W h q hq (by omega))
   rw [g1, g2] at HI1
   rw [g3, g4] at HI2
   have hun : ∀ x y, unL T (N + 1) a.f a.m = some x → unL T (N + 1) a.m a.t = some y → unL T (N + 1) a.f a.t = some (x ++ y.drop 1) := fun x y hx hy => by
    obtain ⟨x2, x3, _, _, _, _, _, x7⟩ := un_row hT hL hD hin (N + 1) p hp (by omega)
    obtain ⟨y2, y3, _, _, _, _, _, y7⟩ := un_row hT hL hD hin (N + 1) q hq (by omega)
    have e1 := x7 N (by omega)
    have e2 := y7 N (by omega)
    rw [g1, g2] at x3 e1
    rw [g3, g4] at y3 e2
    rw [x3] at hx
    rw [y3] at hy
    cases hx; cases hy
    unfold unL; rw [H2.out.2.2]; simp only; rw [if_neg hm, e1, e2]
   have HUN := Lib.hid hun
   have h20 : ∀ z ∈ T, 2 ^ D z ≤ 1048576 := fun z hz => by
    have h1 := (hD z hz).1
    have h2 : 2 ^ D z ≤ 2 ^ 20 := Nat.pow_le_pow_right (by omega) (by omega)
    exact h2
   have HLX : Hid (∀ x, unL T (N + 1) a.f a.m = some x → x.length ≤ 1048577) := Lib.hid (fun x hx => by
    obtain ⟨x2, x3, _, _, _, _, x6, _⟩ := un_row hT hL hD hin (N + 1) p hp (by omega)
    rw [g1, g2] at x3
    rw [x3] at hx; cases hx
    have := h20 p hp; omega)
   have HLY : Hid (∀ x, unL T (N + 1) a.m a.t = some x → x.length ≤ 1048577) := Lib.hid (fun x hx => by
    obtain ⟨x2, x3, _, _, _, _, x6, _⟩ := un_row hT hL hD hin (N + 1) q hq (by omega)
    rw [g3, g4] at x3
    rw [x3] at hx; cases hx
    have := h20 q hq; omega)
   clear h20
   clear hun ih
   go_wp2_with fail
   refine (HI1.out _ (HRL.out.later H2.out.1)).mono ?_
   rintro e w3 ⟨x, ax, cx, hx1, hx2, rfl, hx3, hx4⟩
   have b3 := (H2.out.2.1.keep hx4 (fun e => e)).cell 3 rfl
   have HX := Lib.hid (And.intro hx1 (And.intro hx2 (And.intro hx3 hx4)))
   clear hx1 hx2 hx3 hx4
   go_wp2_with fail
   refine (HI2.out _ (HRL.out.later (H2.out.1.of2 HX.out.2.2.2))).mono ?_
   rintro e w4 ⟨y, ay, cy, hy1, hy2, rfl, hy3, hy4⟩
   have HY := Lib.hid (And.intro hy1 (And.intro hy2 (And.intro hy3 hy4)))
   clear hy1 hy2 hy3 hy4
   go_upto_region 11 with fail
   have lx := HLX.out x HX.out.1
   have ly := HLY.out y HY.out.1
   have ly2 := HY.out.2.1
   have hdp : ∀ wx, (Instr.slice 40 (.slice ay y.length cy) (some (.int .i64 1)) none none).run Tryz.prog wx = .ok (.slice (dropA ay cy 1 1) (y.length - 1) (cy - 1)) wx := fun wx => run_dropS wx 40 3 iI 1 Tryz.underlying40 hiI hsI ay y.length cy 1 (by omega)
   have HRY := Lib.hid ((Rd.ofOwn HY.out.2.2.1).drop (n := 1) (by omega))
   have HOX := Lib.hid (Own.keep HX.out.2.2.1 HY.out.2.2.2 (fun _ _ e => e))
   clear b3 hix e0 e1 e2 e3 x0 y0 y1
   go_wp2_with (at_builtin; refine wpList_append_any rfl (.tmp 65) (.tmp 67) 40 rfl 3 iI (.int .i64 0) 1 8 Tryz.underlying40 hiI hzI hsI hbI rfl (by decide) _ x.length (x.map (Value.int .i64)) rfl (Own.base HOX.out (Nat.zero_le _)) _ (y.length - 1) ((y.map (Value.int .i64)).drop (1 * 1)) rfl HRY.out (by intro u hu; obtain ⟨_, _, rfl⟩ := List.mem_map.1 (List.mem_of_mem_drop hu); rfl) (by unfold maxLen; omega) (by omega) ?_; intro v' w5 hap; obtain ⟨a5, c5, rfl⟩ := hap.form; have HAP := Lib.hid hap; clear hap)
   go_ret2
   have hlen : (x ++ y.drop 1).length = x.length + (y.length - 1) := by rw [List.length_append, List.length_drop]
   have hW : Mod (fun _ => False) w w4 := (H2.out.1.of2 HX.out.2.2.2).of2 HY.out.2.2.2
   have hv : ∀ k, (Value.slice ax x.length cx).ownBlock = some k → w.heap.size ≤ k := fun k hk => by have h1 := (HX.out.2.2.1.lt k hk).1; have h2 := H2.out.1.size; omega
   have hlow := HAP.out.low hW.size hv
   refine ⟨x ++ y.drop 1, a5, c5, HUN.out x y HX.out.1 HY.out.1, by have := HX.out.2.1; rw [hlen]; omega, by rw [hlen]; rfl, ?_, HAP.out.modOld hW hv⟩
   rw [hlen]
   have ho := Own.rebase HAP.out.own hlow
   rw [Nat.mul_one, ← List.map_drop, ← List.map_append] at ho
   exact ho
set_option maxHeartbeats 2000000 in
theorem rup_none {w : World} {p2 tq rd n : Nat} {T : List Ar} {V : List Nat} (h : RL w p2 tq rd n T V) (hT : NetOk n T) (hb : T.length ≤ 100000) (f t : Int) (hf : findN T f t = none) :
  Calls Tryz.prog 34 #[.pointer (some ⟨p2, 0, none⟩), .int .i64 f, .int .i64 t] w fun e w' => e = .returned (.tuple #[.slice none 0 0, .bool false]) ∧ Mod (fun _ => False) w w' := by
 have c1 : isN T ⟨f, t, 0, 0⟩ = false := by
  rcases find_case17 hT.sort f t with ⟨b, g1, _⟩ | ⟨_, g2⟩
  ·
   rw [hf] at g1; cases g1
  ·
   exact g2
 have hfd := rn_find h.net hT.sort hb f t
 rw [c1] at hfd
 have HFD := Lib.hid hfd
 have x0 := h.blk.cell 0 rfl
 clear hfd h
 go_enter Tryz.func34, Tryz.ntmps34
 go_wp2_with fail
 refine HFD.out.mono ?_
 rintro e w1 ⟨rfl, hm1⟩
 have HM := Lib.hid hm1
 clear hm1
 go_wp2_with fail
 go_ret2
 exact ⟨rfl, HM.out⟩
end Go.Proofs.YtjjedebjbgpimaaGreat
