/- unpack.unfolded by contract. -/
import Derived.Test.YtjjedebjbgpimaaGreatKUn
import Derived.Test.YtjjedebjbgpimaaGreatKReg
namespace Go.Proofs.YtjjedebjbgpimaaGreat
open Go.RowKit Mile
set_option maxRecDepth 100000
theorem leastU_ex {Q : Nat → Prop} (h : ∃ n, Q n) : ∃ n, Q n ∧ ∀ m, Q m → n ≤ m := by
 obtain ⟨n, hn⟩ := h
 induction n using Nat.strongRecOn with
 | ind n ih =>
  by_cases h : ∃ m, m < n ∧ Q m
  ·
   obtain ⟨m, h1, h2⟩ := h; exact ih m h1 h2
  ·
   exact ⟨n, hn, fun m hm => Nat.le_of_not_lt fun hl => h ⟨m, hl, hm⟩⟩
open Classical in
noncomputable def leastU (Q : Nat → Prop) : Nat := if h : ∃ n, Q n then Classical.choose (leastU_ex h) else 0
theorem leastU_is {Q : Nat → Prop} (h : ∃ n, Q n) : Q (leastU Q) := by unfold leastU; rw [dif_pos h]; exact (Classical.choose_spec (leastU_ex h)).1
theorem leastU_le {Q : Nat → Prop} {m : Nat} (h : Q m) : leastU Q ≤ m := by unfold leastU; rw [dif_pos ⟨m, h⟩]; exact (Classical.choose_spec (leastU_ex ⟨m, h⟩)).2 m h
theorem Stk.rebase {w : World} {s mb N : Nat} {B B' : Nat → Prop} {it : List UIt} {S : List (Int × Int)} {a : Option Addr} {c : Nat} (h : Stk w s mb B N it S a c) (hb : ∀ k, B k → k < w.heap.size → B' k) : Stk w s mb B' N it S a c :=
 ⟨h.blk, h.own, h.map, ⟨hb _ h.low.1 h.blk.lt, hb _ h.low.2.1 h.map.lt, h.low.2.2⟩, fun k hk => ⟨hb k (h.row k hk).1 (h.own.lt k hk).2, (h.row k hk).2⟩⟩
def UfB (b g : Nat) (v : Value) (k : Nat) : Prop := b ≤ k ∧ k ≠ g ∧ v.ownBlock ≠ some k
structure UfM (w0 : World) (T : List Ar) (D : Ar → Nat) (N : Nat) (tot : List Int) (s mb : Nat) (way : List Int) (R : List UIt) (S : List (Int × Int)) (q : Option (Int × Int)) (aw : Option Addr) (cw g Nn : Nat) (a : Option Addr) (c : Nat) (wr : World) (m : Nat) : Prop where
 own : wr.ownsRow w0.heap.size 3 1 (.slice aw way.length cw) way.length (way.map (Value.int .i64))
 blk : Blk wr g 127 [.int .i64 (q.getD (0, 0)).1, .int .i64 (q.getD (0, 0)).2]
 low : w0.heap.size ≤ g
 apr : (Value.slice aw way.length cw).ownBlock ≠ some g
 stk : Stk wr s mb (UfB w0.heap.size g (.slice aw way.length cw)) Nn R.reverse S a c
 inv : UfI T D (N + 1) tot way R S q m
 cnt : Nn + m ≤ 2097152
 few : R.length + 3 * m ≤ 6291456
 mod : Mod (fun _ => False) w0 wr
def UfS (w0 : World) (T : List Ar) (D : Ar → Nat) (N : Nat) (tot : List Int) (s mb : Nat) (vw vp vo : Value) (wr : World) (m : Nat) : Prop :=
 ∃ way R S q aw cw g Nn a c, vw = .slice aw way.length cw ∧ vp = .pointer (some ⟨g, 0, none⟩) ∧ vo = .bool (Option.isSome q) ∧ UfM w0 T D N tot s mb way R S q aw cw g Nn a c wr m
def UdP (T : List Ar) (k : Nat) (f t : Int) (w : World) (e : Ending) (w' : World) : Prop :=
 ∃ r ax cx, unL T k f t = some r ∧ 2 ≤ r.length ∧ r.length ≤ 1048577 ∧ e = .returned (.tuple #[.slice ax r.length cx, .int .i64 0]) ∧ w'.ownsRow w.heap.size 3 1 (.slice ax r.length cx) r.length (r.map (Value.int .i64)) ∧ Mod (fun _ => False) w w'
theorem uf_pre {w9 : World} {b s mb Nn n cw c : Nat} {B9 : Nat → Prop} {it : List UIt} {S : List (Int × Int)} {a aw : Option Addr} {xs : List Value} (ho : w9.ownsRow b 3 1 (.slice aw n cw) n xs) (hs : Stk w9 s mb B9 Nn it S a c) (hb : ∀ k, B9 k → k < w9.heap.size → b ≤ k ∧ (Value.slice aw n cw).ownBlock ≠ some k) (hl : b ≤ w9.heap.size) (f t : Int) {w10 : World} (hw : w9.alloc (.cells #[.int .i64 f, .int .i64 t] 127) = w10) :
  Stk w10 s mb (UfB b w9.heap.size (.slice aw n cw)) Nn it S a c ∧ (∀ k, w10.heap.size ≤ k → UfB b w9.heap.size (.slice aw n cw) k) ∧ w10.ownsRow b 3 1 (.slice aw n cw) n xs ∧ Blk w10 w9.heap.size 127 [.int .i64 f, .int .i64 t] ∧ (Value.slice aw n cw).ownBlock ≠ some w9.heap.size ∧ Mod (fun _ => False) w9 w10 := by
 have hm : Mod (fun _ => False) w9 w10 := by rw [← hw]; exact Mod.alloc _ _ _
 have hz : w10.heap.size = w9.heap.size + 1 := by rw [← hw]; exact heap_size_alloc _ _
 refine ⟨(hs.rebase (fun k hk hlt => ⟨(hb k hk hlt).1, by omega, (hb k hk hlt).2⟩)).keep hm (fun _ _ e => e), fun k hk => ⟨by omega, by omega, fun e => ?_⟩, Own.keep ho hm (fun _ _ e => e), by rw [← hw]; exact Blk.new w9 127 _, fun e => ?_, hm⟩
 ·
  have := (ho.lt k e).2; omega
 ·
  have := (ho.lt _ e).2; omega
theorem uf_post {w0 w10 w11 : World} {T : List Ar} {D : Ar → Nat} {N : Nat} {tot way : List Int} {R : List UIt} {S : List (Int × Int)} {q : Option (Int × Int)} {s mb g Nn cw m c : Nat} {a aw : Option Addr} {xs : List Value}
  (hmod : Mod (fun _ => False) w0 w10) (ho : w10.ownsRow w0.heap.size 3 1 (.slice aw way.length cw) way.length (way.map (Value.int .i64))) (hb : Blk w10 g 127 xs) (hx : xs.length = 2) (hg : w0.heap.size ≤ g) (hap : (Value.slice aw way.length cw).ownBlock ≠ some g)
  (hs : Stk w11 s mb (UfB w0.heap.size g (.slice aw way.length cw)) Nn R.reverse S a c) (hM : Mod (fun k => UfB w0.heap.size g (.slice aw way.length cw) k) w10 w11) (hi : UfI T D (N + 1) tot way R S q m) (hc : Nn + m ≤ 2097152) (hf : R.length + 3 * m ≤ 6291456) :
  UfM w0 T D N tot s mb way R S q aw cw g Nn a c ((w11.setCell ⟨g, 0, none⟩ (.int .i64 (q.getD (0, 0)).1)).setCell ⟨g, 1, none⟩ (.int .i64 (q.getD (0, 0)).2)) m := by
 have hms : Mod (fun k => k = g) w11 ((w11.setCell ⟨g, 0, none⟩ (.int .i64 (q.getD (0, 0)).1)).setCell ⟨g, 1, none⟩ (.int .i64 (q.getD (0, 0)).2)) := (Mod.setCell w11 ⟨g, 0, none⟩ _ rfl : Mod (fun k => k = g) _ _).trans (Mod.setCell _ ⟨g, 1, none⟩ _ rfl : Mod (fun k => k = g) _ _) (H := fun k => k = g) (fun _ _ e => e) (fun _ _ e => e)
 obtain ⟨x, y, rfl⟩ : ∃ x y, xs = [x, y] := by
  match xs, hx with
  | [x, y], _ => exact ⟨x, y, rfl⟩
 have hb2 := ((hb.keep hM (fun e => e.2.1 rfl)).set 0 (.int .i64 (q.getD (0, 0)).1)).set 1 (.int .i64 (q.getD (0, 0)).2)
 exact ⟨Own.keep (Own.keep ho hM (fun k hk e => e.2.2 hk)) hms (fun k hk e => by have h1 : k = g := e; rw [h1] at hk; exact hap hk), hb2, hg, hap, hs.keep hms (fun k hk e => hk.2.1 e), hi, hc, hf, (hmod.trans hM (H := fun _ => False) (fun _ _ e => e) (fun k hk e => by have := e.1; omega)).trans hms (H := fun _ => False) (fun _ _ e => e) (fun k hk e => by have h1 : k = g := e; omega)⟩
theorem may_wf {n : Nat} {a : Ar} (h : mayA n a) (hn : n ≤ 512) : (Lit.int .i64 a.f).wf = true ∧ (Lit.int .i64 a.t).wf = true := by
 unfold mayA at h
 exact ⟨(i64_wf _).2 (by omega), (i64_wf _).2 (by omega)⟩
def ud_r9_0_V (p : Nat) (tl : Nat) (gp : Nat) (yf : Int) (yt : Int) (yw : Int) (ym : Int) : List Value :=
 [.pointer (some ⟨p, 0, none⟩),
 .pointer (some ⟨p, 0, none⟩),
 .pointer (some ⟨p, 0, none⟩),
 .pointer (some ⟨tl, 0, none⟩),
 .pointer (some ⟨gp, 0, none⟩),
 .int .i64 yf,
 .pointer (some ⟨gp, 1, none⟩),
 .int .i64 yt,
 .tuple #[.agg #[.int .i64 yf, .int .i64 yt, .int .i64 yw, .int .i64 ym], .bool true],
 .tuple #[.agg #[.int .i64 yf, .int .i64 yt, .int .i64 yw, .int .i64 ym], .bool true],
 .agg #[.int .i64 yf, .int .i64 yt, .int .i64 yw, .int .i64 ym],
 .bool true,
 undef,
 undef,
 .bool true]
def ud_r9_0_D : List (List Nat) := [[], [0], [1], [2], [], [4], [], [6], [3, 5, 7], [8], [9], [9], [], [10, 12], [11]]

set_option maxHeartbeats 16000000 in
theorem unfolded_any {w : World} {p n N : Nat} {L T : List Ar} {V : List Nat} {D : Ar → Nat} {F : Nat → Prop} (h : LO w p n T V F) (hn : n ≤ 512) (hT : NetOk n T) (hL : NetOk n L) (hD : UnOk T D N) (hN : N ≤ 20) (hin : ∀ a ∈ T, a.m < 0 → a ∈ L) (a : Ar) (ha : a ∈ T) :
  Calls Tryz.prog 70 #[.pointer (some ⟨p, 0, none⟩), .int .i64 a.f, .int .i64 a.t, .func (.func 71) #[] #[]] w (UdP T (N + 1) a.f a.t w) := by
 obtain ⟨iI, hiI, hzI, hsI, hbI⟩ := info_parts Nt.infoI
 obtain ⟨tot, ht1, ht2⟩ := UfI.begin hT hL hD hin ha
 obtain ⟨r0, hr1, hr2, _, _, _, hr6, _⟩ := un_row hT hL hD hin (N + 1) a ha (by have := (hD a ha).1; omega)
 rw [ht1] at hr1
 obtain rfl := (Option.some.inj hr1)
 have h20 : 2 ^ (N + 1) ≤ 2097152 := by
  have : 2 ^ (N + 1) ≤ 2 ^ 21 := Nat.pow_le_pow_right (by omega) (by omega)
  exact this
 have hlen : tot.length ≤ 1048577 := by
  have h1 : 2 ^ D a ≤ 2 ^ 20 := Nat.pow_le_pow_right (by omega) (by have := (hD a ha).1; omega)
  have h2 : (2 : Nat) ^ 20 = 1048576 := by decide
  omega
 have HTOT := Lib.hid (And.intro ht1 (And.intro hr2 hlen))
 have HINV := Lib.hid ht2
 have HFAC := Lib.hid (And.intro hT (And.intro hL (And.intro hD hin)))
 have HWF := Lib.hid (fun (x : Ar) (hx : x ∈ T) => may_wf (hT.may x hx) hn)
 have HA := Lib.hid ha
 have H20 := Lib.hid h20
 have HLO := Lib.hid h
 obtain ⟨B, hB⟩ : ∃ y, w.heap.size = y := ⟨_, rfl⟩
 have HB := Lib.hid hB
 clear h ht1 ht2 hr2 hr6 hr1 hlen hT hL hD hin ha h20 hn hB
 have hmm := @run_makeMap Tryz.prog
 go_enter Tryz.func70, Tryz.ntmps70
 go_upto_region 5 with fail
 clear hmm
 obtain ⟨w1, hw1⟩ : ∃ y, w.alloc (.cells #[.int .i64 a.f] 3) = y := ⟨_, rfl⟩
 obtain ⟨w2, hw2⟩ : ∃ y, w1.alloc (.map #[] 0) = y := ⟨_, rfl⟩
 have hz1 : w1.heap.size = B + 1 := by rw [← hw1, ← HB.out]; exact heap_size_alloc _ _
 have hz2 : w2.heap.size = B + 2 := by rw [← hw2]; exact (heap_size_alloc _ _).trans (by omega)
 obtain ⟨w3, hw3⟩ : ∃ y, w2.alloc (.cells #[.slice none 0 0, .map (some (B + 1))] 124) = y := ⟨_, rfl⟩
 have hz3 : w3.heap.size = B + 3 := by rw [← hw3]; exact (heap_size_alloc _ _).trans (by omega)
 have hm1 : Mod (fun _ => False) w w1 := by rw [← hw1]; exact Mod.alloc _ _ _
 have hm2 : Mod (fun _ => False) w1 w2 := by rw [← hw2]; exact Mod.alloc _ _ _
 have hm3 : Mod (fun _ => False) w2 w3 := by rw [← hw3]; exact Mod.alloc _ _ _
 have hp2 : PMap Tryz.prog 127 w2 (B + 1) 0 [] := by rw [← hw2, ← hz1]; exact PMap.made w1
 have hs3 : Stk w3 (B + 2) (B + 1) (fun k => B + 1 ≤ k) 0 [] [] none 0 := ⟨by rw [← hw3, ← hz2]; exact Blk.new w2 124 _, World.ownsRow_nil _ _ _ _, hp2.keep hm3 (fun e => e), ⟨by omega, Nat.le_refl _, by omega⟩, fun k hk => by simp [Value.ownBlock] at hk⟩
 have ho1 : w1.ownsRow w.heap.size 3 1 (.slice (some ⟨B, 0, none⟩) 1 1) 1 [.int .i64 a.f] := by rw [← hw1, ← HB.out]; exact World.ownsRow_lit (base := w.heap.size) (e := 3) (size := 1) w #[.int .i64 a.f] 1 (Nat.le_refl _) (by unfold maxLen; omega) rfl
 have hm03 := (hm1.of2 hm2).of2 hm3
 have ho3 := Own.keep ho1 (hm2.of2 hm3) (fun _ _ e => e)
 have H3 := Lib.hid (And.intro hs3 (And.intro ho3 (And.intro hm03 hz3)))
 simp only [HB.out]
 try rw [hw1]
 try rw [hz1]
 try rw [hw2]
 try rw [hz2]
 try rw [hw3]
 clear hs3 ho3 hm03 hm1 hm2 hm3 hp2 ho1 hw1 hw2 hw3 hz1 hz2 hz3
 go_wp2_with fail
 refine (push_any H3.out.1 (by simp) (fun k hk => by have := H3.out.2.2.2; omega) a.f a.t).mono ?_
 rintro e w4 ⟨rfl, a4, c4, hs4, hM4, _⟩
 have ho4 := Own.keep H3.out.2.1 hM4 (fun k hk e => by have h1 := own_blk H3.out.2.1 hk; have h2 : B + 1 ≤ k := e; omega)
 have hm4 : Mod (fun _ => False) w w4 := H3.out.2.2.1.trans hM4 (fun _ _ e => e) (fun k hk e => by have h2 : B + 1 ≤ k := e; have := HB.out; omega)
 have hz4 := hM4.size
 have H4 := Lib.hid (And.intro hs4 (And.intro ho4 (And.intro hm4 hz4)))
 clear hs4 hM4 ho4 hm4 hz4
 go_wp2_with fail
 refine (pop_any H4.out.1 (by simp) (fun k hk => by have := H3.out.2.2.2; have := H4.out.2.2.2; omega) (fun x hx => by simp at hx; subst hx; exact HWF.out a HA.out)).mono ?_
 rintro e w5 ⟨rfl, ⟨a5, c5, hs5⟩, hM5⟩
 have ho5 := Own.keep H4.out.2.1 hM5 (fun k hk e => by have h1 := own_blk H4.out.2.1 hk; have h2 : B + 1 ≤ k := e; omega)
 have hm5 : Mod (fun _ => False) w w5 := H4.out.2.2.1.trans hM5 (fun _ _ e => e) (fun k hk e => by have h2 : B + 1 ≤ k := e; have := HB.out; omega)
 have hz5 : B + 3 ≤ w5.heap.size := by have h1 := H3.out.2.2.2; have h2 := H4.out.2.2.2; have h3 := hM5.size; omega
 simp only [List.nil_append, List.reverse_cons, List.reverse_nil, popR] at hs5 ⊢
 have H5 := Lib.hid (And.intro hs5 (And.intro ho5 (And.intro hm5 hz5)))
 clear hs5 hM5 ho5 hm5 hz5
 skip
 go_wp2_with fail
 obtain ⟨g, hg⟩ : ∃ y, w5.heap.size = y := ⟨_, rfl⟩
 obtain ⟨w6, hw6⟩ : ∃ y, w5.alloc (.cells #[.int .i64 a.f, .int .i64 a.t] 127) = y := ⟨_, rfl⟩
 have hm6 : Mod (fun _ => False) w5 w6 := by rw [← hw6]; exact Mod.alloc _ _ _
 have hb6 : Blk w6 g 127 [.int .i64 a.f, .int .i64 a.t] := by rw [← hw6, ← hg]; exact Blk.new w5 127 _
 have HU : Hid (UfM w T D N tot (B + 2) (B + 1) [a.f] [] [] (some (a.f, a.t)) (some ⟨B, 0, none⟩) 1 g 0 a5 c5 w6 (2 ^ (N + 1))) := Lib.hid ⟨Own.keep H5.out.2.1 hm6 (fun _ _ e => e), hb6, by have := HB.out; have := H5.out.2.2.2; omega, fun e => by have h1 : B = g := Option.some.inj e; have := H5.out.2.2.2; omega, (H5.out.1.rebase (fun k hk hlt => ⟨by have h1 : B + 1 ≤ k := hk; have := HB.out; omega, fun e => by omega, fun e => by have h1 : B = k := Option.some.inj e; have h2 : B + 1 ≤ k := hk; omega⟩)).keep hm6 (fun _ _ e => e), HINV.out, by have := H20.out; omega, by have := H20.out; simp; omega, H5.out.2.2.1.of2 hm6⟩
 (try rw [hw6])
 (try rw [hg])
 clear hw6 hm6 hb6
 clear H3 H4 H5
 go_loopw [10, 12, 13] (fun vw vp vo wr => ∃ m, UfS w T D N tot (B + 2) (B + 1) vw vp vo wr m) (fun vw vp vo wr => leastU (UfS w T D N tot (B + 2) (B + 1) vw vp vo wr))
 case atStart => exact ⟨_, [a.f], [], [], some (a.f, a.t), _, 1, g, 0, a5, c5, rfl, rfl, rfl, HU.out⟩
 case round =>
  have hls := leastU_is hrel
  clear hrel HU
  generalize hq0 : leastU (UfS w T D N tot (B + 2) (B + 1) _ _ _ _) = q0 at hls
  have HQ0 := Lib.hid hq0
  clear hq0
  obtain ⟨way, R, S, q, aw, cw, gp, Nn, ar, cr, rfl, rfl, rfl, hu⟩ := hls
  obtain ⟨wo, hwo⟩ : ∃ x : World, x = wr := ⟨_, rfl⟩
  subst hwo
  cases q with
  | none =>
   simp only [Option.isSome]
   have HU := Lib.hid hu
   clear hu
   go_wp2_with fail
   go_ret2
   have hway := HU.out.inv.done
   have hown := HU.out.own
   subst hway
   exact ⟨way, aw, cw, HTOT.out.1, HTOT.out.2.1, HTOT.out.2.2, rfl, hown, HU.out.mod⟩
  | some pr =>
   obtain ⟨⟨y, hy, hye⟩, hyn⟩ := hu.inv.cur pr rfl
   subst hye
   obtain ⟨yf, yt, yw, ym⟩ := y
   simp only [Option.isSome] at hu ⊢
   have hfy := findN_some HFAC.out.1.sort hy
   have hlw := hu.inv.len
   have hl0 := HTOT.out.2.2
   have hbg := hu.blk
   simp only [Option.getD_some] at hbg
   simp only at hfy hyn
   obtain ⟨tl, rd1, mb1, FT, hlv, _⟩ := HLO.out.later hu.mod
   have HU := Lib.hid (And.intro hu (And.intro hy hyn))
   have HFY := Lib.hid hfy
   clear hu hy hyn hfy
   have HS : Hid (Ev (Mod (fun _ => False) wo) wo) := Lib.hid (Ev.mod wo)
   replace HS := Lib.hid ((Ev.blk hlv.blk).and HS.out)
   replace HS := Lib.hid ((Ev.nt hlv.net).and HS.out)
   replace HS := Lib.hid ((Ev.blk hbg).and HS.out)
   clear hlv hbg
   have hbp := (HS.out.now).2.2.1
   have qp_0 := hbp.cell 0 rfl
   have qp_1 := hbp.cell 1 rfl
   have qp_2 := hbp.cell 2 rfl
   have lp := hbp.lt
   clear hbp
   have hbgp := (HS.out.now).1
   have qgp_0 := hbgp.cell 0 rfl
   have qgp_1 := hbgp.cell 1 rfl
   have lgp := hbgp.lt
   clear hbgp
   go_upto_region 9 with fail
   clear qp_0 qp_1 qp_2 lp qgp_0 qgp_1 lgp
   obtain ⟨B0, hB0⟩ : ∃ n, wo.heap.size = n := ⟨_, rfl⟩
   have HB0 := Lib.hid hB0
   clear hB0
   have HSd := Lib.hid HS.out.drew
   refine wp_region_box (act := ?actud_r9_0) B0 50 [.int .i64 0, .int .i64 0, .int .i64 0, .int .i64 0] [.int .i64 yf, .int .i64 yt, .int .i64 yw, .int .i64 ym] 12 13 (ud_r9_0_V p tl gp yf yt yw ym) (fun i => ud_r9_0_D.getD i []) (by decide) (by kernel_rfl) (by kernel_rfl) (by kernel_rfl) (by kernel_rfl) ?hactud_r9_0 ?_ ?_
   case hactud_r9_0 => intro vs; simp only [putAll, Nat.zero_add, Nat.reduceAdd, Act.put, List.setIfInBounds_toArray, List.set_cons_succ, List.set_cons_zero]; exact rfl
   ·
    refine opsOkV_cons ?_ ?_
    ·
     intro K vs W hR hD hK
     clear hD
     try dsimp only at hK ⊢
     simp only [Act.put, List.setIfInBounds_toArray, List.set_cons_succ, List.set_cons_zero] at hK
     go_wp2
     exact hK _ _ (boxF_of (by decide) (by decide) rfl) (BoxR.refl _ _ _ _ _)
    refine opsOkV_cons ?_ ?_
    ·
     intro K vs W hR hD hK
     have dq0 : vs 0 = .pointer (some ⟨p, 0, none⟩) := boxF_val (by decide) (by decide) (hD 0 (by decide))
     clear hD
     try dsimp only at hK ⊢
     simp only [Act.put, List.setIfInBounds_toArray, List.set_cons_succ, List.set_cons_zero] at hK
     generalize vs 0 = vq0 at hK dq0 ⊢
     subst vq0
     go_wp2
     exact hK _ _ (boxF_of (by decide) (by decide) rfl) (BoxR.refl _ _ _ _ _)
    refine opsOkV_cons ?_ ?_
    ·
     intro K vs W hR hD hK
     have dq1 : vs 1 = .pointer (some ⟨p, 0, none⟩) := boxF_val (by decide) (by decide) (hD 1 (by decide))
     clear hD
     try dsimp only at hK ⊢
     simp only [Act.put, List.setIfInBounds_toArray, List.set_cons_succ, List.set_cons_zero] at hK
     generalize vs 1 = vq1 at hK dq1 ⊢
     subst vq1
     go_wp2
     exact hK _ _ (boxF_of (by decide) (by decide) rfl) (BoxR.refl _ _ _ _ _)
    refine opsOkV_cons ?_ ?_
    ·
     intro K vs W hR hD hK
     have dq2 : vs 2 = .pointer (some ⟨p, 0, none⟩) := boxF_val (by decide) (by decide) (hD 2 (by decide))
     clear hD
     try dsimp only at hK ⊢
     simp only [Act.put, List.setIfInBounds_toArray, List.set_cons_succ, List.set_cons_zero] at hK
     generalize vs 2 = vq2 at hK dq2 ⊢
     subst vq2
     have q0 := ((HSd.out.at ((hR.mod.mono (fun k hk e => by have h := HB0.out; simp at hk; omega)))).2.2.1).cell 0 rfl
     go_wp2
     exact hK _ _ (boxF_of (by decide) (by decide) rfl) (BoxR.refl _ _ _ _ _)
    refine opsOkV_cons ?_ ?_
    ·
     intro K vs W hR hD hK
     clear hD
     try dsimp only at hK ⊢
     simp only [Act.put, List.setIfInBounds_toArray, List.set_cons_succ, List.set_cons_zero] at hK
     go_wp2
     exact hK _ _ (boxF_of (by decide) (by decide) rfl) (BoxR.refl _ _ _ _ _)
    refine opsOkV_cons ?_ ?_
    ·
     intro K vs W hR hD hK
     have dq4 : vs 4 = .pointer (some ⟨gp, 0, none⟩) := boxF_val (by decide) (by decide) (hD 4 (by decide))
     clear hD
     try dsimp only at hK ⊢
     simp only [Act.put, List.setIfInBounds_toArray, List.set_cons_succ, List.set_cons_zero] at hK
     generalize vs 4 = vq4 at hK dq4 ⊢
     subst vq4
     have q0 := ((HSd.out.at ((hR.mod.mono (fun k hk e => by have h := HB0.out; simp at hk; omega)))).1).cell 0 rfl
     go_wp2
     exact hK _ _ (boxF_of (by decide) (by decide) rfl) (BoxR.refl _ _ _ _ _)
    refine opsOkV_cons ?_ ?_
    ·
     intro K vs W hR hD hK
     clear hD
     try dsimp only at hK ⊢
     simp only [Act.put, List.setIfInBounds_toArray, List.set_cons_succ, List.set_cons_zero] at hK
     go_wp2
     exact hK _ _ (boxF_of (by decide) (by decide) rfl) (BoxR.refl _ _ _ _ _)
    refine opsOkV_cons ?_ ?_
    ·
     intro K vs W hR hD hK
     have dq6 : vs 6 = .pointer (some ⟨gp, 1, none⟩) := boxF_val (by decide) (by decide) (hD 6 (by decide))
     clear hD
     try dsimp only at hK ⊢
     simp only [Act.put, List.setIfInBounds_toArray, List.set_cons_succ, List.set_cons_zero] at hK
     generalize vs 6 = vq6 at hK dq6 ⊢
     subst vq6
     have q0 := ((HSd.out.at ((hR.mod.mono (fun k hk e => by have h := HB0.out; simp at hk; omega)))).1).cell 1 rfl
     go_wp2
     exact hK _ _ (boxF_of (by decide) (by decide) rfl) (BoxR.refl _ _ _ _ _)
    refine opsOkV_cons ?_ ?_
    ·
     intro K vs W hR hD hK
     have dq3 : vs 3 = .pointer (some ⟨tl, 0, none⟩) := boxF_val (by decide) (by decide) (hD 3 (by decide))
     have dq5 : vs 5 = .int .i64 yf := boxF_val (by decide) (by decide) (hD 5 (by decide))
     have dq7 : vs 7 = .int .i64 yt := boxF_val (by decide) (by decide) (hD 7 (by decide))
     clear hD
     try dsimp only at hK ⊢
     simp only [Act.put, List.setIfInBounds_toArray, List.set_cons_succ, List.set_cons_zero] at hK
     generalize vs 3 = vq3 at hK dq3 ⊢
     subst vq3
     generalize vs 5 = vq5 at hK dq5 ⊢
     subst vq5
     generalize vs 7 = vq7 at hK dq7 ⊢
     subst vq7
     go_wp2_with (go_at_call 30; refine (nt_arc ((HSd.out.at ((hR.mod.mono (fun k hk e => by have h := HB0.out; simp at hk; omega)))).2.1) yf yt).mono ?_; rintro e' w' ⟨rfl, hm'⟩; rw [HFY.out])
     exact hK _ _ (boxF_of (by decide) (by decide) rfl) (BoxR.of hm')
    refine opsOkV_cons ?_ ?_
    ·
     intro K vs W hR hD hK
     have dq8 : vs 8 = .tuple #[.agg #[.int .i64 yf, .int .i64 yt, .int .i64 yw, .int .i64 ym], .bool true] := boxF_val (by decide) (by decide) (hD 8 (by decide))
     clear hD
     try dsimp only at hK ⊢
     simp only [Act.put, List.setIfInBounds_toArray, List.set_cons_succ, List.set_cons_zero] at hK
     generalize vs 8 = vq8 at hK dq8 ⊢
     subst vq8
     go_wp2
     exact hK _ _ (boxF_of (by decide) (by decide) rfl) (BoxR.refl _ _ _ _ _)
    refine opsOkV_cons ?_ ?_
    ·
     intro K vs W hR hD hK
     have dq9 : vs 9 = .tuple #[.agg #[.int .i64 yf, .int .i64 yt, .int .i64 yw, .int .i64 ym], .bool true] := boxF_val (by decide) (by decide) (hD 9 (by decide))
     clear hD
     try dsimp only at hK ⊢
     simp only [Act.put, List.setIfInBounds_toArray, List.set_cons_succ, List.set_cons_zero] at hK
     generalize vs 9 = vq9 at hK dq9 ⊢
     subst vq9
     go_wp2
     exact hK _ _ (boxF_of (by decide) (by decide) rfl) (BoxR.refl _ _ _ _ _)
    refine opsOkV_cons ?_ ?_
    ·
     intro K vs W hR hD hK
     have dq9 : vs 9 = .tuple #[.agg #[.int .i64 yf, .int .i64 yt, .int .i64 yw, .int .i64 ym], .bool true] := boxF_val (by decide) (by decide) (hD 9 (by decide))
     clear hD
     try dsimp only at hK ⊢
     simp only [Act.put, List.setIfInBounds_toArray, List.set_cons_succ, List.set_cons_zero] at hK
     generalize vs 9 = vq9 at hK dq9 ⊢
     subst vq9
     go_wp2
     exact hK _ _ (boxF_of (by decide) (by decide) rfl) (BoxR.refl _ _ _ _ _)
    refine opsOkV_cons ?_ ?_
    ·
     intro K vs W hR hD hK
     clear hD
     try dsimp only at hK ⊢
     simp only [Act.put, List.setIfInBounds_toArray, List.set_cons_succ, List.set_cons_zero] at hK
     have hz : B0 ≤ W.heap.size := by have h := HB0.out; have h2 := hR.mod.size; simp at h2; omega
     go_wp2
     exact hK _ _ (boxF_of_var hz (Blk.new W 50 [.int .i64 0, .int .i64 0, .int .i64 0, .int .i64 0])) (BoxR.of (Mod.alloc _ _ _))
    refine opsOkV_cons ?_ ?_
    ·
     intro K vs W hR hD hK
     obtain ⟨bb, hvb, hB, hbl⟩ := boxF_var (hD 12 (by decide))
     have dq10 : vs 10 = .agg #[.int .i64 yf, .int .i64 yt, .int .i64 yw, .int .i64 ym] := boxF_val (by decide) (by decide) (hD 10 (by decide))
     clear hD
     try dsimp only at hK ⊢
     simp only [Act.put, List.setIfInBounds_toArray, List.set_cons_succ, List.set_cons_zero] at hK
     generalize vs 10 = vq10 at hK dq10 ⊢
     subst vq10
     rw [hvb] at hK ⊢
     rcases hbl with hbl | hbl
     all_goals
      have c0 := hbl.cell 0 rfl
      have c1 := hbl.cell 1 rfl
      have c2 := hbl.cell 2 rfl
      have c3 := hbl.cell 3 rfl
      have f0 := hbl.free 0
      have f1 := hbl.free 1
      have f2 := hbl.free 2
      have f3 := hbl.free 3
      go_wp2
      exact hK undef _ (boxF_of_fill (by decide) hvb hB ((((hbl.set 0 (.int .i64 yf)).set 1 (.int .i64 yt)).set 2 (.int .i64 yw)).set 3 (.int .i64 ym))) (BoxR.fill hB ((((Mod.setCell (F := fun k => k = bb) (W) ⟨bb, 0, none⟩ (.int .i64 yf) rfl).trans (Mod.setCell (F := fun k => k = bb) (World.setCell (W) ⟨bb, 0, none⟩ (.int .i64 yf)) ⟨bb, 1, none⟩ (.int .i64 yt) rfl) (fun _ _ e => e) (fun _ _ e => e)).trans (Mod.setCell (F := fun k => k = bb) (World.setCell (World.setCell (W) ⟨bb, 0, none⟩ (.int .i64 yf)) ⟨bb, 1, none⟩ (.int .i64 yt)) ⟨bb, 2, none⟩ (.int .i64 yw) rfl) (fun _ _ e => e) (fun _ _ e => e)).trans (Mod.setCell (F := fun k => k = bb) (World.setCell (World.setCell (World.setCell (W) ⟨bb, 0, none⟩ (.int .i64 yf)) ⟨bb, 1, none⟩ (.int .i64 yt)) ⟨bb, 2, none⟩ (.int .i64 yw)) ⟨bb, 3, none⟩ (.int .i64 ym) rfl) (fun _ _ e => e) (fun _ _ e => e)) ((((hbl.set 0 (.int .i64 yf)).set 1 (.int .i64 yt)).set 2 (.int .i64 yw)).set 3 (.int .i64 ym)))
    refine opsOkV_cons ?_ ?_
    ·
     intro K vs W hR hD hK
     have dq11 : vs 11 = .bool true := boxF_val (by decide) (by decide) (hD 11 (by decide))
     clear hD
     try dsimp only at hK ⊢
     simp only [Act.put, List.setIfInBounds_toArray, List.set_cons_succ, List.set_cons_zero] at hK
     generalize vs 11 = vq11 at hK dq11 ⊢
     subst vq11
     go_wp2
     exact hK _ _ (boxF_of (by decide) (by decide) rfl) (BoxR.refl _ _ _ _ _)
    exact opsOkV_nil
   ·
    intro vs wq1 hR hF
    obtain ⟨bx, hvb, _, hbl⟩ := boxF_fill (by decide) (hF 13 (by decide))
    have dq14 : vs 14 = .bool true := boxF_val (by decide) (by decide) (hF 14 (by decide))
    clear hF
    try dsimp only
    rw [hvb]
    generalize vs 14 = vq14 at dq14 ⊢
    subst dq14
    replace HS := Lib.hid (HSd.out.step (hR.mod.mono (fun k hk e => by have h := HB0.out; simp at hk; omega)))
    clear HSd hR hvb
    replace HS := Lib.hid ((Ev.blk hbl).and HS.out)
    clear hbl
    have hbp := (HS.out.now).2.2.2.1
    have qp_0 := hbp.cell 0 rfl
    have qp_1 := hbp.cell 1 rfl
    have qp_2 := hbp.cell 2 rfl
    have lp := hbp.lt
    clear hbp
    have hbgp := (HS.out.now).2.1
    have qgp_0 := hbgp.cell 0 rfl
    have qgp_1 := hbgp.cell 1 rfl
    have lgp := hbgp.lt
    clear hbgp
    have hbbx := (HS.out.now).1
    have qbx_0 := hbbx.cell 0 rfl
    have qbx_1 := hbbx.cell 1 rfl
    have qbx_2 := hbbx.cell 2 rfl
    have qbx_3 := hbbx.cell 3 rfl
    have lbx := hbbx.lt
    clear hbbx
    go_wp2_with fail
    refine (isPlain_any _ ⟨yf, yt, yw, ym⟩).mono ?_
    rintro e wq2 ⟨rfl, hmp⟩
    replace HS := Lib.hid (HS.out.step hmp)
    clear hmp
    clear qp_0 qp_1 qp_2 lp qgp_0 qgp_1 lgp qbx_0 qbx_1 qbx_2 qbx_3 lbx
    have hbp := (HS.out.now).2.2.2.1
    have qp_0 := hbp.cell 0 rfl
    have qp_1 := hbp.cell 1 rfl
    have qp_2 := hbp.cell 2 rfl
    have lp := hbp.lt
    clear hbp
    have hbgp := (HS.out.now).2.1
    have qgp_0 := hbgp.cell 0 rfl
    have qgp_1 := hbgp.cell 1 rfl
    have lgp := hbgp.lt
    clear hbgp
    have hbbx := (HS.out.now).1
    have qbx_0 := hbbx.cell 0 rfl
    have qbx_1 := hbbx.cell 1 rfl
    have qbx_2 := hbbx.cell 2 rfl
    have qbx_3 := hbbx.cell 3 rfl
    have lbx := hbbx.lt
    clear hbbx
    have hu8 := HU.out.1
    have hmq := (HS.out.now).2.2.2.2
    have hs8 := hu8.stk.keep hmq (fun _ _ e => e)
    have ho8 := Own.keep hu8.own hmq (fun _ _ e => e)
    have hm8 := hu8.mod.of2 hmq
    have hz8 := hm8.size
    have hB0 := HB.out
    have H8 := Lib.hid (And.intro hs8 (And.intro ho8 (And.intro hm8 hz8)))
    clear hu8 hmq hs8 ho8 hm8 hz8 hB0
    by_cases hym : ym < 0
    ·
     skip
     have z1 : decide (ym < 0) = true := decide_eq_true hym
     obtain ⟨nw, hnw⟩ : ∃ y, way.length = y := ⟨_, rfl⟩
     rw [hnw] at hlw ⊢
     have HNW := Lib.hid hnw
     clear hnw
     go_upto_region 16 with (at_builtin; refine wpList_append_any rfl (.tmp 54) (.tmp 57) 40 rfl 3 iI (.int .i64 0) 1 8 Tryz.underlying40 hiI hzI hsI hbI rfl (by decide) (.slice aw nw cw) nw (way.map (Value.int .i64)) rfl (by rw [← HNW.out]; exact Own.base (Own.keep H8.out.2.1 (Mod.alloc (fun _ => False) wq2 _) (fun _ _ e => e)) (Nat.zero_le _)) (.slice (some ⟨wq2.heap.size, 0, none⟩) 1 1) 1 [.int .i64 yt] rfl (by exact Rd.litN 3 1 [.int .i64 yt] (0, 0) _ 1 rfl rfl (by decide)) (by simp [Value.oneCell']) (by unfold maxLen; omega) (by omega) ?_; intro v' w9 hap; obtain ⟨a9, c9, rfl⟩ := hap.form; have HAP := Lib.hid hap; clear hap)
     have hv : ∀ k, (Value.slice aw nw cw).ownBlock = some k → w.heap.size ≤ k := fun k hk => by rw [← HNW.out] at hk; exact (H8.out.2.1.lt k hk).1
     have hW : Mod (fun _ => False) w (wq2.alloc (.cells #[.int .i64 yt] 3)) := H8.out.2.2.1.of2 (Mod.alloc _ _ _)
     have hm9 := HAP.out.modOld hW hv
     have ho9 := Own.rebase HAP.out.own (HAP.out.low hW.size hv)
     have hapr : (Value.slice aw nw cw).ownBlock ≠ some gp := by rw [← HNW.out]; exact HU.out.1.apr
     have hb9 := ((HS.out.now).2.1).keep ((Mod.alloc (fun _ => False) wq2 (.cells #[.int .i64 yt] 3))) (fun e => e)
     have hb9 := hb9.keep HAP.out.mod (fun e => hapr e)
     have hs9 := ((H8.out.1.rebase (B' := fun k => UfB w.heap.size gp (.slice aw way.length cw) k ∧ k < wq2.heap.size) (fun k h1 h2 => ⟨h1, h2⟩)).keep (Mod.alloc (fun _ => False) wq2 (.cells #[.int .i64 yt] 3)) (fun _ _ e => e)).keep HAP.out.mod (fun k hk e => hk.1.2.2 (by rw [HNW.out]; exact e))
     have hbb : ∀ k, (UfB w.heap.size gp (.slice aw way.length cw) k ∧ k < wq2.heap.size) → k < w9.heap.size → w.heap.size ≤ k ∧ (Value.slice a9 (nw + 1) c9).ownBlock ≠ some k := fun k hk _ => ⟨hk.1.1, fun e => (HAP.out.row k e).elim (fun h => hk.1.2.2 (by rw [HNW.out]; exact h)) (fun h => by have h1 := hk.2; have h2 := heap_size_alloc wq2 (.cells #[.int .i64 yt] 3); omega)⟩
     obtain ⟨m1, hm1, hi1⟩ := HU.out.1.inv.leaf (a := ⟨yf, yt, yw, ym⟩) HFAC.out.1 HU.out.2.1 hym
     have hpl := popR_len R S
     have hlen9 : (way ++ [yt]).length = nw + 1 := by rw [List.length_append, HNW.out]; rfl
     rw [show way.map (Value.int .i64) ++ [Value.int .i64 yt] = (way ++ [yt]).map (Value.int .i64) by rw [List.map_append]; rfl] at ho9
     have hc0 := hb9.cell 0 rfl
     have hc1 := hb9.cell 1 rfl
     have hg9 := hb9.lt
     obtain ⟨PR, hPR⟩ : ∃ y, popR R S = y := ⟨_, rfl⟩
     rw [hPR] at hi1 hpl
     obtain ⟨w10, hw10⟩ : ∃ y, w9.alloc (.cells #[.int .i64 yf, .int .i64 yt] 127) = y := ⟨_, rfl⟩
     obtain ⟨k1, k2, k3, k4, k5, k6⟩ := uf_pre ho9 hs9 hbb hm9.size yf yt hw10
     have hpop := pop_any k1 (by have := HU.out.1.few; rw [List.length_reverse]; omega) k2 (fun x hx => by obtain ⟨b, hb1, hb2⟩ := HU.out.1.inv.arc x (List.mem_reverse.1 hx); have := HWF.out b hb1; rw [← hb2]; exact this)
     rw [List.reverse_reverse R, hPR] at hpop
     obtain ⟨q1, R1, S1⟩ := PR
     obtain ⟨g9, hg9e⟩ : ∃ y, w9.heap.size = y := ⟨_, rfl⟩
     rw [hg9e] at hpop k1 k2 k4 k5
     have HPOP := Lib.hid hpop
     have HT := Lib.hid (And.intro k3 (And.intro k4 (And.intro k5 (And.intro (hm9.of2 k6) (And.intro hi1 (And.intro hm1 (And.intro hpl (show w.heap.size ≤ g9 by have := hm9.size; omega))))))))
     clear k1 k2 k3 k4 k5 k6 hpop hi1 hm1 hpl hPR hs9 ho9 hb9 hbb hm9
     go_upto_region 8 with fail
     (try rw [hw10])
     (try rw [hg9e])
     clear hc0 hc1 hg9 hw10 hg9e
     clear qp_0 qp_1 qp_2 lp qgp_0 qgp_1 lgp qbx_0 qbx_1 qbx_2 qbx_3 lbx
     go_wp2_with fail
     refine HPOP.out.mono ?_
     rintro e w11 ⟨rfl, ⟨a11, c11, hs11⟩, hM11⟩
     have hb11 := HT.out.2.1.keep hM11 (fun e => e.2.1 rfl)
     have f0 := hb11.free 0
     have f1 := hb11.free 1
     have hc0 := hb11.cell 0 rfl
     have hc1 := hb11.cell 1 rfl
     have HP := Lib.hid (And.intro hs11 hM11)
     clear hs11 hM11 hb11 HPOP
     simp only
     go_wp2_with fail
     have hnew : UfS w T D N tot (B + 2) (B + 1) (.slice a9 (way ++ [yt]).length c9) (.pointer (some ⟨g9, 0, none⟩)) (.bool (Option.isSome q1)) _ m1 := ⟨(way ++ [yt]), R1, S1, q1, a9, c9, g9, Nn, a11, c11, rfl, rfl, rfl, uf_post HT.out.2.2.2.1 (by rw [hlen9]; exact HT.out.1) HT.out.2.1 rfl HT.out.2.2.2.2.2.2.2 (by rw [hlen9]; exact HT.out.2.2.1) (by rw [hlen9]; exact HP.out.1) (by rw [hlen9]; exact HP.out.2) HT.out.2.2.2.2.1 (by have h1 := HU.out.1.cnt; have h2 := HT.out.2.2.2.2.2.1; omega) (by have h1 := HU.out.1.few; have h2 := HT.out.2.2.2.2.2.1; have h3 := HT.out.2.2.2.2.2.2.1; omega)⟩
     rw [hlen9] at hnew
     go_roundw
     case rel => exact ⟨_, _, _, _, _, ⟨_, hnew⟩, rfl, rfl, rfl, rfl, rfl⟩
     case measure => exact Nat.lt_of_le_of_lt (leastU_le hnew) (by have h9 := HQ0.out; simp only [Option.isSome] at h9; rw [h9]; exact HT.out.2.2.2.2.2.1)
    ·
     skip
     have z1 : decide (ym < 0) = false := decide_eq_false hym
     have hno : (yf, yt) ∉ S := open_no HU.out.1.inv.opn HU.out.2.2
     go_wp2_with fail
     refine (unfold_any H8.out.1 (by have := HU.out.1.few; rw [List.length_reverse]; omega) (by have := HU.out.1.cnt; omega) (fun k hk => ⟨by have := H8.out.2.2.2; omega, fun e => by have h1 := ((HS.out.now).2.1).lt; omega, fun e => by have := (H8.out.2.1.lt k e).2; omega⟩) yf yt ym (HWF.out _ HU.out.2.1).1 (HWF.out _ HU.out.2.1).2 hno).mono ?_
     rintro e w9 ⟨rfl, ⟨a9, c9, hs9⟩, hM9⟩
     have ho9 := Own.keep H8.out.2.1 hM9 (fun k hk e => e.2.2 hk)
     have hb9 := ((HS.out.now).2.1).keep hM9 (fun e => e.2.1 rfl)
     have hm9 : Mod (fun _ => False) w w9 := H8.out.2.2.1.trans hM9 (fun _ _ e => e) (fun k hk e => by have := e.1; omega)
     have hbb : ∀ k, UfB w.heap.size gp (.slice aw way.length cw) k → k < w9.heap.size → w.heap.size ≤ k ∧ (Value.slice aw way.length cw).ownBlock ≠ some k := fun k hk _ => ⟨hk.1, hk.2.2⟩
     obtain ⟨m1, hm1, harc, hi1⟩ := HU.out.1.inv.node (a := ⟨yf, yt, yw, ym⟩) HFAC.out.1 HFAC.out.2.1 HFAC.out.2.2.1 HFAC.out.2.2.2 HU.out.2.1 (by simp only; omega)
     simp only at harc hi1
     have hpl := popR_len (((yf, ym), false) :: ((ym, yt), false) :: ((yf, yt), true) :: R) ((yf, yt) :: S)
     simp only [List.length_cons] at hpl
     clear hM9 hno
     have hc0 := hb9.cell 0 rfl
     have hc1 := hb9.cell 1 rfl
     have hg9 := hb9.lt
     obtain ⟨PR, hPR⟩ : ∃ y, popR (((yf, ym), false) :: ((ym, yt), false) :: ((yf, yt), true) :: R) ((yf, yt) :: S) = y := ⟨_, rfl⟩
     rw [hPR] at hi1 hpl
     obtain ⟨w10, hw10⟩ : ∃ y, w9.alloc (.cells #[.int .i64 yf, .int .i64 yt] 127) = y := ⟨_, rfl⟩
     obtain ⟨k1, k2, k3, k4, k5, k6⟩ := uf_pre ho9 hs9 hbb hm9.size yf yt hw10
     have hpop := pop_any k1 (by have := HU.out.1.few; simp only [List.length_append, List.length_reverse, List.length_cons, List.length_nil]; omega) k2 (fun x hx => by obtain ⟨b, hb1, hb2⟩ := harc x (by simp only [List.mem_append, List.mem_reverse, List.mem_cons, List.not_mem_nil, or_false] at hx ⊢; rcases hx with ((h | h) | h) | h <;> simp [h]); have := HWF.out b hb1; rw [← hb2]; exact this)
     rw [(by simp : (R.reverse ++ [((yf, yt), true)] ++ [((ym, yt), false)] ++ [((yf, ym), false)]).reverse = ((yf, ym), false) :: ((ym, yt), false) :: ((yf, yt), true) :: R), hPR] at hpop
     obtain ⟨q1, R1, S1⟩ := PR
     obtain ⟨g9, hg9e⟩ : ∃ y, w9.heap.size = y := ⟨_, rfl⟩
     rw [hg9e] at hpop k1 k2 k4 k5
     have HPOP := Lib.hid hpop
     have HT := Lib.hid (And.intro k3 (And.intro k4 (And.intro k5 (And.intro (hm9.of2 k6) (And.intro hi1 (And.intro hm1 (And.intro hpl (show w.heap.size ≤ g9 by have := hm9.size; omega))))))))
     clear k1 k2 k3 k4 k5 k6 hpop hi1 hm1 hpl hPR hs9 ho9 hb9 hbb hm9
     go_upto_region 8 with fail
     (try rw [hw10])
     (try rw [hg9e])
     clear hc0 hc1 hg9 hw10 hg9e
     clear qp_0 qp_1 qp_2 lp qgp_0 qgp_1 lgp qbx_0 qbx_1 qbx_2 qbx_3 lbx
     go_wp2_with fail
     refine HPOP.out.mono ?_
     rintro e w11 ⟨rfl, ⟨a11, c11, hs11⟩, hM11⟩
     have hb11 := HT.out.2.1.keep hM11 (fun e => e.2.1 rfl)
     have f0 := hb11.free 0
     have f1 := hb11.free 1
     have hc0 := hb11.cell 0 rfl
     have hc1 := hb11.cell 1 rfl
     have HP := Lib.hid (And.intro hs11 hM11)
     clear hs11 hM11 hb11 HPOP
     simp only
     go_wp2_with fail
     have hnew : UfS w T D N tot (B + 2) (B + 1) (.slice aw way.length cw) (.pointer (some ⟨g9, 0, none⟩)) (.bool (Option.isSome q1)) _ m1 := ⟨way, R1, S1, q1, aw, cw, g9, (Nn + 1), a11, c11, rfl, rfl, rfl, uf_post HT.out.2.2.2.1 (HT.out.1) HT.out.2.1 rfl HT.out.2.2.2.2.2.2.2 (HT.out.2.2.1) (HP.out.1) (HP.out.2) HT.out.2.2.2.2.1 (by have h1 := HU.out.1.cnt; have h2 := HT.out.2.2.2.2.2.1; omega) (by have h1 := HU.out.1.few; have h2 := HT.out.2.2.2.2.2.1; have h3 := HT.out.2.2.2.2.2.2.1; omega)⟩
     go_roundw
     case rel => exact ⟨_, _, _, _, _, ⟨_, hnew⟩, rfl, rfl, rfl, rfl, rfl⟩
     case measure => exact Nat.lt_of_le_of_lt (leastU_le hnew) (by have h9 := HQ0.out; simp only [Option.isSome] at h9; rw [h9]; exact HT.out.2.2.2.2.2.1)
end Go.Proofs.YtjjedebjbgpimaaGreat
namespace Go.Proofs.YtjjedebjbgpimaaGreat
open Go.RowKit Mile
set_option maxRecDepth 100000
def un_r9_0_V (p : Nat) (tl : Nat) (g : Nat) (f : Int) (t : Int) : List Value :=
 [.pointer (some ⟨p, 0, none⟩),
 .pointer (some ⟨p, 0, none⟩),
 .pointer (some ⟨p, 0, none⟩),
 .pointer (some ⟨tl, 0, none⟩),
 .pointer (some ⟨g, 0, none⟩),
 .int .i64 f,
 .pointer (some ⟨g, 1, none⟩),
 .int .i64 t,
 .tuple #[.agg #[.int .i64 0, .int .i64 0, .int .i64 0, .int .i64 0], .bool false],
 .tuple #[.agg #[.int .i64 0, .int .i64 0, .int .i64 0, .int .i64 0], .bool false],
 .agg #[.int .i64 0, .int .i64 0, .int .i64 0, .int .i64 0],
 .bool false,
 undef,
 undef,
 .bool false]
def un_r9_0_D : List (List Nat) := [[], [0], [1], [2], [], [4], [], [6], [3, 5, 7], [8], [9], [9], [], [10, 12], [11]]

set_option maxHeartbeats 8000000 in
theorem unfolded_none {w : World} {p n : Nat} {T : List Ar} {V : List Nat} {F : Nat → Prop} (h : LO w p n T V F) (f t : Int) (hwf : (Lit.int .i64 f).wf = true ∧ (Lit.int .i64 t).wf = true) (hf : findN T f t = none) (fv : Value) :
  Calls Tryz.prog 70 #[.pointer (some ⟨p, 0, none⟩), .int .i64 f, .int .i64 t, fv] w fun e w' => e = .returned (.tuple #[.slice none 0 0, .int .i64 4]) ∧ Mod (fun _ => False) w w' := by
 have HWF := Lib.hid hwf
 have HLO := Lib.hid h
 have HF := Lib.hid hf
 obtain ⟨B, hB⟩ : ∃ y, w.heap.size = y := ⟨_, rfl⟩
 have HB := Lib.hid hB
 clear h hwf hf hB
 have hmm := @run_makeMap Tryz.prog
 go_enter Tryz.func70, Tryz.ntmps70
 go_upto_region 5 with fail
 clear hmm
 obtain ⟨w1, hw1⟩ : ∃ y, w.alloc (.cells #[.int .i64 f] 3) = y := ⟨_, rfl⟩
 obtain ⟨w2, hw2⟩ : ∃ y, w1.alloc (.map #[] 0) = y := ⟨_, rfl⟩
 have hz1 : w1.heap.size = B + 1 := by rw [← hw1, ← HB.out]; exact heap_size_alloc _ _
 have hz2 : w2.heap.size = B + 2 := by rw [← hw2]; exact (heap_size_alloc _ _).trans (by omega)
 obtain ⟨w3, hw3⟩ : ∃ y, w2.alloc (.cells #[.slice none 0 0, .map (some (B + 1))] 124) = y := ⟨_, rfl⟩
 have hz3 : w3.heap.size = B + 3 := by rw [← hw3]; exact (heap_size_alloc _ _).trans (by omega)
 have hm1 : Mod (fun _ => False) w w1 := by rw [← hw1]; exact Mod.alloc _ _ _
 have hm2 : Mod (fun _ => False) w1 w2 := by rw [← hw2]; exact Mod.alloc _ _ _
 have hm3 : Mod (fun _ => False) w2 w3 := by rw [← hw3]; exact Mod.alloc _ _ _
 have hp2 : PMap Tryz.prog 127 w2 (B + 1) 0 [] := by rw [← hw2, ← hz1]; exact PMap.made w1
 have hs3 : Stk w3 (B + 2) (B + 1) (fun k => B + 1 ≤ k) 0 [] [] none 0 := ⟨by rw [← hw3, ← hz2]; exact Blk.new w2 124 _, World.ownsRow_nil _ _ _ _, hp2.keep hm3 (fun e => e), ⟨by omega, Nat.le_refl _, by omega⟩, fun k hk => by simp [Value.ownBlock] at hk⟩
 have ho1 : w1.ownsRow w.heap.size 3 1 (.slice (some ⟨B, 0, none⟩) 1 1) 1 [.int .i64 f] := by rw [← hw1, ← HB.out]; exact World.ownsRow_lit (base := w.heap.size) (e := 3) (size := 1) w #[.int .i64 f] 1 (Nat.le_refl _) (by unfold maxLen; omega) rfl
 have hm03 := (hm1.of2 hm2).of2 hm3
 have ho3 := Own.keep ho1 (hm2.of2 hm3) (fun _ _ e => e)
 have H3 := Lib.hid (And.intro hs3 (And.intro ho3 (And.intro hm03 hz3)))
 simp only [HB.out]
 try rw [hw1]
 try rw [hz1]
 try rw [hw2]
 try rw [hz2]
 try rw [hw3]
 clear hs3 ho3 hm03 hm1 hm2 hm3 hp2 ho1 hw1 hw2 hw3 hz1 hz2 hz3
 go_wp2_with fail
 refine (push_any H3.out.1 (by simp) (fun k hk => by have := H3.out.2.2.2; omega) f t).mono ?_
 rintro e w4 ⟨rfl, a4, c4, hs4, hM4, _⟩
 have ho4 := Own.keep H3.out.2.1 hM4 (fun k hk e => by have h1 := own_blk H3.out.2.1 hk; have h2 : B + 1 ≤ k := e; omega)
 have hm4 : Mod (fun _ => False) w w4 := H3.out.2.2.1.trans hM4 (fun _ _ e => e) (fun k hk e => by have h2 : B + 1 ≤ k := e; have := HB.out; omega)
 have hz4 := hM4.size
 have H4 := Lib.hid (And.intro hs4 (And.intro ho4 (And.intro hm4 hz4)))
 clear hs4 hM4 ho4 hm4 hz4
 go_wp2_with fail
 refine (pop_any H4.out.1 (by simp) (fun k hk => by have := H3.out.2.2.2; have := H4.out.2.2.2; omega) (fun x hx => by simp at hx; subst hx; exact HWF.out)).mono ?_
 rintro e w5 ⟨rfl, ⟨a5, c5, hs5⟩, hM5⟩
 have ho5 := Own.keep H4.out.2.1 hM5 (fun k hk e => by have h1 := own_blk H4.out.2.1 hk; have h2 : B + 1 ≤ k := e; omega)
 have hm5 : Mod (fun _ => False) w w5 := H4.out.2.2.1.trans hM5 (fun _ _ e => e) (fun k hk e => by have h2 : B + 1 ≤ k := e; have := HB.out; omega)
 have hz5 : B + 3 ≤ w5.heap.size := by have h1 := H3.out.2.2.2; have h2 := H4.out.2.2.2; have h3 := hM5.size; omega
 simp only [List.nil_append, List.reverse_cons, List.reverse_nil, popR] at hs5 ⊢
 have H5 := Lib.hid (And.intro hs5 (And.intro ho5 (And.intro hm5 hz5)))
 clear hs5 hM5 ho5 hm5 hz5
 skip
 go_wp2_with fail
 obtain ⟨g, hg⟩ : ∃ y, w5.heap.size = y := ⟨_, rfl⟩
 obtain ⟨w6, hw6⟩ : ∃ y, w5.alloc (.cells #[.int .i64 f, .int .i64 t] 127) = y := ⟨_, rfl⟩
 have hm6 : Mod (fun _ => False) w5 w6 := by rw [← hw6]; exact Mod.alloc _ _ _
 have hb6 : Blk w6 g 127 [.int .i64 f, .int .i64 t] := by rw [← hw6, ← hg]; exact Blk.new w5 127 _
 have hm06 := Lib.hid (H5.out.2.2.1.of2 hm6)
 (try rw [hw6])
 (try rw [hg])
 clear hw6 hm6
 have HB6 := Lib.hid hb6
 clear hb6 H3 H4 H5
 go_loopw [10, 12, 13] (fun vw vp vo wr => vw = .slice (some ⟨B, 0, none⟩) 1 1 ∧ vp = .pointer (some ⟨g, 0, none⟩) ∧ vo = .bool true ∧ w6 = wr) (fun _ _ _ _ => 0)
 case atStart => exact ⟨rfl, rfl, rfl, rfl⟩
 case round =>
  obtain ⟨rfl, rfl, rfl, hwr⟩ := hrel
  subst hwr
  obtain ⟨tl, rd1, mb1, FT, hlv, _⟩ := HLO.out.later hm06.out
  have hbg := HB6.out
  have HS : Hid (Ev (Mod (fun _ => False) w6) w6) := Lib.hid (Ev.mod w6)
  replace HS := Lib.hid ((Ev.blk hlv.blk).and HS.out)
  replace HS := Lib.hid ((Ev.nt hlv.net).and HS.out)
  replace HS := Lib.hid ((Ev.blk hbg).and HS.out)
  clear hlv hbg
  have hbp := (HS.out.now).2.2.1
  have qp_0 := hbp.cell 0 rfl
  have qp_1 := hbp.cell 1 rfl
  have qp_2 := hbp.cell 2 rfl
  have lp := hbp.lt
  clear hbp
  have hbg := (HS.out.now).1
  have qg_0 := hbg.cell 0 rfl
  have qg_1 := hbg.cell 1 rfl
  have lg := hbg.lt
  clear hbg
  go_upto_region 9 with fail
  clear qp_0 qp_1 qp_2 lp qg_0 qg_1 lg
  obtain ⟨B0, hB0⟩ : ∃ n, w6.heap.size = n := ⟨_, rfl⟩
  have HB0 := Lib.hid hB0
  clear hB0
  have HSd := Lib.hid HS.out.drew
  refine wp_region_box (act := ?actun_r9_0) B0 50 [.int .i64 0, .int .i64 0, .int .i64 0, .int .i64 0] [.int .i64 0, .int .i64 0, .int .i64 0, .int .i64 0] 12 13 (un_r9_0_V p tl g f t) (fun i => un_r9_0_D.getD i []) (by decide) (by kernel_rfl) (by kernel_rfl) (by kernel_rfl) (by kernel_rfl) ?hactun_r9_0 ?_ ?_
  case hactun_r9_0 => intro vs; simp only [putAll, Nat.zero_add, Nat.reduceAdd, Act.put, List.setIfInBounds_toArray, List.set_cons_succ, List.set_cons_zero]; exact rfl
  ·
   refine opsOkV_cons ?_ ?_
   ·
    intro K vs W hR hD hK
    clear hD
    try dsimp only at hK ⊢
    simp only [Act.put, List.setIfInBounds_toArray, List.set_cons_succ, List.set_cons_zero] at hK
    go_wp2
    exact hK _ _ (boxF_of (by decide) (by decide) rfl) (BoxR.refl _ _ _ _ _)
   refine opsOkV_cons ?_ ?_
   ·
    intro K vs W hR hD hK
    have dq0 : vs 0 = .pointer (some ⟨p, 0, none⟩) := boxF_val (by decide) (by decide) (hD 0 (by decide))
    clear hD
    try dsimp only at hK ⊢
    simp only [Act.put, List.setIfInBounds_toArray, List.set_cons_succ, List.set_cons_zero] at hK
    generalize vs 0 = vq0 at hK dq0 ⊢
    subst vq0
    go_wp2
    exact hK _ _ (boxF_of (by decide) (by decide) rfl) (BoxR.refl _ _ _ _ _)
   refine opsOkV_cons ?_ ?_
   ·
    intro K vs W hR hD hK
    have dq1 : vs 1 = .pointer (some ⟨p, 0, none⟩) := boxF_val (by decide) (by decide) (hD 1 (by decide))
    clear hD
    try dsimp only at hK ⊢
    simp only [Act.put, List.setIfInBounds_toArray, List.set_cons_succ, List.set_cons_zero] at hK
    generalize vs 1 = vq1 at hK dq1 ⊢
    subst vq1
    go_wp2
    exact hK _ _ (boxF_of (by decide) (by decide) rfl) (BoxR.refl _ _ _ _ _)
   refine opsOkV_cons ?_ ?_
   ·
    intro K vs W hR hD hK
    have dq2 : vs 2 = .pointer (some ⟨p, 0, none⟩) := boxF_val (by decide) (by decide) (hD 2 (by decide))
    clear hD
    try dsimp only at hK ⊢
    simp only [Act.put, List.setIfInBounds_toArray, List.set_cons_succ, List.set_cons_zero] at hK
    generalize vs 2 = vq2 at hK dq2 ⊢
    subst vq2
    have q0 := ((HSd.out.at ((hR.mod.mono (fun k hk e => by have h := HB0.out; simp at hk; omega)))).2.2.1).cell 0 rfl
    go_wp2
    exact hK _ _ (boxF_of (by decide) (by decide) rfl) (BoxR.refl _ _ _ _ _)
   refine opsOkV_cons ?_ ?_
   ·
    intro K vs W hR hD hK
    clear hD
    try dsimp only at hK ⊢
    simp only [Act.put, List.setIfInBounds_toArray, List.set_cons_succ, List.set_cons_zero] at hK
    go_wp2
    exact hK _ _ (boxF_of (by decide) (by decide) rfl) (BoxR.refl _ _ _ _ _)
   refine opsOkV_cons ?_ ?_
   ·
    intro K vs W hR hD hK
    have dq4 : vs 4 = .pointer (some ⟨g, 0, none⟩) := boxF_val (by decide) (by decide) (hD 4 (by decide))
    clear hD
    try dsimp only at hK ⊢
    simp only [Act.put, List.setIfInBounds_toArray, List.set_cons_succ, List.set_cons_zero] at hK
    generalize vs 4 = vq4 at hK dq4 ⊢
    subst vq4
    have q0 := ((HSd.out.at ((hR.mod.mono (fun k hk e => by have h := HB0.out; simp at hk; omega)))).1).cell 0 rfl
    go_wp2
    exact hK _ _ (boxF_of (by decide) (by decide) rfl) (BoxR.refl _ _ _ _ _)
   refine opsOkV_cons ?_ ?_
   ·
    intro K vs W hR hD hK
    clear hD
    try dsimp only at hK ⊢
    simp only [Act.put, List.setIfInBounds_toArray, List.set_cons_succ, List.set_cons_zero] at hK
    go_wp2
    exact hK _ _ (boxF_of (by decide) (by decide) rfl) (BoxR.refl _ _ _ _ _)
   refine opsOkV_cons ?_ ?_
   ·
    intro K vs W hR hD hK
    have dq6 : vs 6 = .pointer (some ⟨g, 1, none⟩) := boxF_val (by decide) (by decide) (hD 6 (by decide))
    clear hD
    try dsimp only at hK ⊢
    simp only [Act.put, List.setIfInBounds_toArray, List.set_cons_succ, List.set_cons_zero] at hK
    generalize vs 6 = vq6 at hK dq6 ⊢
    subst vq6
    have q0 := ((HSd.out.at ((hR.mod.mono (fun k hk e => by have h := HB0.out; simp at hk; omega)))).1).cell 1 rfl
    go_wp2
    exact hK _ _ (boxF_of (by decide) (by decide) rfl) (BoxR.refl _ _ _ _ _)
   refine opsOkV_cons ?_ ?_
   ·
    intro K vs W hR hD hK
    have dq3 : vs 3 = .pointer (some ⟨tl, 0, none⟩) := boxF_val (by decide) (by decide) (hD 3 (by decide))
    have dq5 : vs 5 = .int .i64 f := boxF_val (by decide) (by decide) (hD 5 (by decide))
    have dq7 : vs 7 = .int .i64 t := boxF_val (by decide) (by decide) (hD 7 (by decide))
    clear hD
    try dsimp only at hK ⊢
    simp only [Act.put, List.setIfInBounds_toArray, List.set_cons_succ, List.set_cons_zero] at hK
    generalize vs 3 = vq3 at hK dq3 ⊢
    subst vq3
    generalize vs 5 = vq5 at hK dq5 ⊢
    subst vq5
    generalize vs 7 = vq7 at hK dq7 ⊢
    subst vq7
    go_wp2_with (go_at_call 30; refine (nt_arc ((HSd.out.at ((hR.mod.mono (fun k hk e => by have h := HB0.out; simp at hk; omega)))).2.1) f t).mono ?_; rintro e' w' ⟨rfl, hm'⟩; rw [HF.out])
    exact hK _ _ (boxF_of (by decide) (by decide) rfl) (BoxR.of hm')
   refine opsOkV_cons ?_ ?_
   ·
    intro K vs W hR hD hK
    have dq8 : vs 8 = .tuple #[.agg #[.int .i64 0, .int .i64 0, .int .i64 0, .int .i64 0], .bool false] := boxF_val (by decide) (by decide) (hD 8 (by decide))
    clear hD
    try dsimp only at hK ⊢
    simp only [Act.put, List.setIfInBounds_toArray, List.set_cons_succ, List.set_cons_zero] at hK
    generalize vs 8 = vq8 at hK dq8 ⊢
    subst vq8
    go_wp2
    exact hK _ _ (boxF_of (by decide) (by decide) rfl) (BoxR.refl _ _ _ _ _)
   refine opsOkV_cons ?_ ?_
   ·
    intro K vs W hR hD hK
    have dq9 : vs 9 = .tuple #[.agg #[.int .i64 0, .int .i64 0, .int .i64 0, .int .i64 0], .bool false] := boxF_val (by decide) (by decide) (hD 9 (by decide))
    clear hD
    try dsimp only at hK ⊢
    simp only [Act.put, List.setIfInBounds_toArray, List.set_cons_succ, List.set_cons_zero] at hK
    generalize vs 9 = vq9 at hK dq9 ⊢
    subst vq9
    go_wp2
    exact hK _ _ (boxF_of (by decide) (by decide) rfl) (BoxR.refl _ _ _ _ _)
   refine opsOkV_cons ?_ ?_
   ·
    intro K vs W hR hD hK
    have dq9 : vs 9 = .tuple #[.agg #[.int .i64 0, .int .i64 0, .int .i64 0, .int .i64 0], .bool false] := boxF_val (by decide) (by decide) (hD 9 (by decide))
    clear hD
    try dsimp only at hK ⊢
    simp only [Act.put, List.setIfInBounds_toArray, List.set_cons_succ, List.set_cons_zero] at hK
    generalize vs 9 = vq9 at hK dq9 ⊢
    subst vq9
    go_wp2
    exact hK _ _ (boxF_of (by decide) (by decide) rfl) (BoxR.refl _ _ _ _ _)
   refine opsOkV_cons ?_ ?_
   ·
    intro K vs W hR hD hK
    clear hD
    try dsimp only at hK ⊢
    simp only [Act.put, List.setIfInBounds_toArray, List.set_cons_succ, List.set_cons_zero] at hK
    have hz : B0 ≤ W.heap.size := by have h := HB0.out; have h2 := hR.mod.size; simp at h2; omega
    go_wp2
    exact hK _ _ (boxF_of_var hz (Blk.new W 50 [.int .i64 0, .int .i64 0, .int .i64 0, .int .i64 0])) (BoxR.of (Mod.alloc _ _ _))
   refine opsOkV_cons ?_ ?_
   ·
    intro K vs W hR hD hK
    obtain ⟨bb, hvb, hB, hbl⟩ := boxF_var (hD 12 (by decide))
    have dq10 : vs 10 = .agg #[.int .i64 0, .int .i64 0, .int .i64 0, .int .i64 0] := boxF_val (by decide) (by decide) (hD 10 (by decide))
    clear hD
    try dsimp only at hK ⊢
    simp only [Act.put, List.setIfInBounds_toArray, List.set_cons_succ, List.set_cons_zero] at hK
    generalize vs 10 = vq10 at hK dq10 ⊢
    subst vq10
    rw [hvb] at hK ⊢
    rcases hbl with hbl | hbl
    all_goals
     have c0 := hbl.cell 0 rfl
     have c1 := hbl.cell 1 rfl
     have c2 := hbl.cell 2 rfl
     have c3 := hbl.cell 3 rfl
     have f0 := hbl.free 0
     have f1 := hbl.free 1
     have f2 := hbl.free 2
     have f3 := hbl.free 3
     go_wp2
     exact hK undef _ (boxF_of_fill (by decide) hvb hB ((((hbl.set 0 (.int .i64 0)).set 1 (.int .i64 0)).set 2 (.int .i64 0)).set 3 (.int .i64 0))) (BoxR.fill hB ((((Mod.setCell (F := fun k => k = bb) (W) ⟨bb, 0, none⟩ (.int .i64 0) rfl).trans (Mod.setCell (F := fun k => k = bb) (World.setCell (W) ⟨bb, 0, none⟩ (.int .i64 0)) ⟨bb, 1, none⟩ (.int .i64 0) rfl) (fun _ _ e => e) (fun _ _ e => e)).trans (Mod.setCell (F := fun k => k = bb) (World.setCell (World.setCell (W) ⟨bb, 0, none⟩ (.int .i64 0)) ⟨bb, 1, none⟩ (.int .i64 0)) ⟨bb, 2, none⟩ (.int .i64 0) rfl) (fun _ _ e => e) (fun _ _ e => e)).trans (Mod.setCell (F := fun k => k = bb) (World.setCell (World.setCell (World.setCell (W) ⟨bb, 0, none⟩ (.int .i64 0)) ⟨bb, 1, none⟩ (.int .i64 0)) ⟨bb, 2, none⟩ (.int .i64 0)) ⟨bb, 3, none⟩ (.int .i64 0) rfl) (fun _ _ e => e) (fun _ _ e => e)) ((((hbl.set 0 (.int .i64 0)).set 1 (.int .i64 0)).set 2 (.int .i64 0)).set 3 (.int .i64 0)))
   refine opsOkV_cons ?_ ?_
   ·
    intro K vs W hR hD hK
    have dq11 : vs 11 = .bool false := boxF_val (by decide) (by decide) (hD 11 (by decide))
    clear hD
    try dsimp only at hK ⊢
    simp only [Act.put, List.setIfInBounds_toArray, List.set_cons_succ, List.set_cons_zero] at hK
    generalize vs 11 = vq11 at hK dq11 ⊢
    subst vq11
    go_wp2
    exact hK _ _ (boxF_of (by decide) (by decide) rfl) (BoxR.refl _ _ _ _ _)
   exact opsOkV_nil
  ·
   intro vs wq1 hR hF
   obtain ⟨bx, hvb, _, hbl⟩ := boxF_fill (by decide) (hF 13 (by decide))
   have dq14 : vs 14 = .bool false := boxF_val (by decide) (by decide) (hF 14 (by decide))
   clear hF
   try dsimp only
   rw [hvb]
   generalize vs 14 = vq14 at dq14 ⊢
   subst dq14
   replace HS := Lib.hid (HSd.out.step (hR.mod.mono (fun k hk e => by have h := HB0.out; simp at hk; omega)))
   clear HSd hR hvb
   replace HS := Lib.hid ((Ev.blk hbl).and HS.out)
   clear hbl
   have hbp := (HS.out.now).2.2.2.1
   have qp_0 := hbp.cell 0 rfl
   have qp_1 := hbp.cell 1 rfl
   have qp_2 := hbp.cell 2 rfl
   have lp := hbp.lt
   clear hbp
   have hbg := (HS.out.now).2.1
   have qg_0 := hbg.cell 0 rfl
   have qg_1 := hbg.cell 1 rfl
   have lg := hbg.lt
   clear hbg
   have hbbx := (HS.out.now).1
   have qbx_0 := hbbx.cell 0 rfl
   have qbx_1 := hbbx.cell 1 rfl
   have qbx_2 := hbbx.cell 2 rfl
   have qbx_3 := hbbx.cell 3 rfl
   have lbx := hbbx.lt
   clear hbbx
   go_wp2_with fail
   go_ret2
   exact ⟨rfl, hm06.out.of2 (HS.out.now).2.2.2.2⟩
end Go.Proofs.YtjjedebjbgpimaaGreat
namespace Go.Proofs.YtjjedebjbgpimaaGreat
open Go.RowKit Mile
set_option maxRecDepth 100000
def rowAt (T : List Ar) (k : Nat) (st : List Int) : Nat → Option (List Int)
 | 0 => some [st.getD 0 0]
 | j + 1 => match rowAt T k st j, unL T k (st.getD j 0) (st.getD (j + 1) 0) with
  | some o, some x => some (o ++ x.drop 1)
  | _, _ => none
def RowU (T : List Ar) (k : Nat) (st : List Int) : Option (List Int) := if st.length = 0 then some [] else rowAt T k st (st.length - 1)
theorem rowAt_stop {T : List Ar} {k : Nat} {st : List Int} {j : Nat} (h : unL T k (st.getD j 0) (st.getD (j + 1) 0) = none) : ∀ i, rowAt T k st (j + 1 + i) = none := by
 intro i
 induction i with
 | zero => show rowAt T k st (j + 1) = none; unfold rowAt; rw [h]; cases rowAt T k st j <;> rfl
 | succ i ih => show rowAt T k st ((j + 1 + i) + 1) = none; unfold rowAt; rw [ih]
theorem rowAt_step {T : List Ar} {k : Nat} {st : List Int} {j : Nat} {o x : List Int} (h1 : rowAt T k st j = some o) (h2 : unL T k (st.getD j 0) (st.getD (j + 1) 0) = some x) : rowAt T k st (j + 1) = some (o ++ x.drop 1) := by unfold rowAt; rw [h1, h2]
theorem getD_at {st : List Int} {j : Nat} (h : j < st.length) : st[j] = st.getD j 0 := by simp [List.getD, h]
theorem drop1_at {st : List Int} {j : Nat} (h : j < (st.drop 1).length) : (st.drop 1)[j] = st.getD (j + 1) 0 := by
 rw [List.length_drop] at h
 rw [List.getElem_drop, List.getD, List.getElem?_eq_getElem (by omega)]
 simp only [Option.getD_some]; congr 1; omega
def UrP (T : List Ar) (k : Nat) (st : List Int) (w : World) (e : Ending) (w' : World) : Prop :=
 (∃ o ax cx, RowU T k st = some o ∧ o.length ≤ 1 + st.length * 1048577 ∧ e = .returned (.tuple #[.slice ax o.length cx, .int .i64 0]) ∧ Rd w' 1 (.slice ax o.length cx) o.length (o.map (Value.int .i64)) ∧ Mod (fun _ => False) w w') ∨
 (RowU T k st = none ∧ e = .returned (.tuple #[.slice none 0 0, .int .i64 4]) ∧ Mod (fun _ => False) w w')
theorem unL_no {T : List Ar} {k : Nat} {f t : Int} (h : findN T f t = none) : unL T k f t = none := by
 cases k with
 | zero => rfl
 | succ k => unfold unL; rw [h]

theorem ustep_any {w : World} {p n N : Nat} {L T : List Ar} {V : List Nat} {D : Ar → Nat} {F : Nat → Prop} (h : LO w p n T V F) (hn : n ≤ 512) (hT : NetOk n T) (hL : NetOk n L) (hD : UnOk T D N) (hN : N ≤ 20) (hin : ∀ a ∈ T, a.m < 0 → a ∈ L) (f t : Int) (hwf : (Lit.int .i64 f).wf = true ∧ (Lit.int .i64 t).wf = true) :
  Calls Tryz.prog 70 #[.pointer (some ⟨p, 0, none⟩), .int .i64 f, .int .i64 t, .func (.func 71) #[] #[]] w fun e w' => UdP T (N + 1) f t w e w' ∨ (unL T (N + 1) f t = none ∧ e = .returned (.tuple #[.slice none 0 0, .int .i64 4]) ∧ Mod (fun _ => False) w w') := by
 cases hf : findN T f t with
 | none => exact (unfolded_none h f t hwf hf _).mono fun e w' h => .inr ⟨unL_no hf, h⟩
 | some a =>
  obtain ⟨h1, h2, h3⟩ := findN_inv hf
  subst h2; subst h3
  exact (unfolded_any h hn hT hL hD hN hin a h1).mono fun e w' h => .inl h
set_option maxHeartbeats 8000000 in
theorem urow_any {w : World} {p n N : Nat} {L T : List Ar} {V : List Nat} {D : Ar → Nat} {F : Nat → Prop} (h : LO w p n T V F) (hn : n ≤ 512) (hT : NetOk n T) (hL : NetOk n L) (hD : UnOk T D N) (hN : N ≤ 20) (hin : ∀ a ∈ T, a.m < 0 → a ∈ L) (a : Option Addr) (ln c : Nat) (st : List Int) (hst : st.length = ln) (hr : Rd w 1 (.slice a ln c) ln (st.map (Value.int .i64))) (hl : ln ≤ 1000) (hwf : ∀ x ∈ st, (Lit.int .i64 x).wf = true) :
  Calls Tryz.prog 72 #[.pointer (some ⟨p, 0, none⟩), .slice a ln c, .func (.func 71) #[] #[]] w (UrP T (N + 1) st w) := by
 obtain ⟨iI, hiI, hzI, hsI, hbI⟩ := info_parts Nt.infoI
 have HSTEP := Lib.hid (fun (W : World) (hm : Mod (fun _ => False) w W) (f t : Int) (h1 : (Lit.int .i64 f).wf = true) (h2 : (Lit.int .i64 t).wf = true) => ustep_any (h.later hm) hn hT hL hD hN hin f t ⟨h1, h2⟩)
 have HWF := Lib.hid hwf
 clear h hT hL hD hin hwf
 by_cases h0 : ln = 0
 ·
  have z0 : ((ln : Int) == 0) = true := by simp; omega
  have HN := Lib.hid (show st.length = 0 by omega)
  clear hr hst h0
  go_enter Tryz.func72, Tryz.ntmps72
  go_wp2_with fail
  go_ret2
  exact .inl ⟨[], none, 0, by unfold RowU; rw [if_pos HN.out], by simp, rfl, Rd.ofOwn (World.ownsRow_nil _ 0 3 1), Mod.refl _ _⟩
 ·
  have z0 : ((ln : Int) == 0) = false := by simp; omega
  have hca : ln ≤ c := rd_cap hr
  obtain ⟨b0, o0, hp0, e0⟩ := rd1 hr 0 (by omega)
  have hix0 : ∀ wx, (Instr.indexAt 40 (.slice a ln c) (.int .i64 0)).run Tryz.prog wx = .ok (.pointer (some (elemA a 0 1))) wx := fun wx => run_indexS (P := Tryz.prog) wx 40 3 iI 1 Tryz.underlying40 hiI hsI a ln c 0 (by omega) (hr.some_ (by omega))
  rw [hp0] at hix0
  rw [getD_at (by omega)] at e0
  have hdr : ∀ wx, (Instr.slice 40 (.slice a ln c) (some (.int .i64 1)) none none).run Tryz.prog wx = .ok (.slice (dropA a c 1 1) (ln - 1) (c - 1)) wx := fun wx => run_dropS wx 40 3 iI 1 Tryz.underlying40 hiI hsI a ln c 1 (by omega)
  have hrt := hr.drop (n := 1) (by omega)
  rw [Nat.one_mul, ← List.map_drop] at hrt
  obtain ⟨m, hm⟩ : ∃ y, ln - 1 = y := ⟨_, rfl⟩
  obtain ⟨a1, ha1⟩ : ∃ y, dropA a c 1 1 = y := ⟨_, rfl⟩
  obtain ⟨c1, hc1⟩ : ∃ y, c - 1 = y := ⟨_, rfl⟩
  rw [hm, ha1, hc1] at hdr hrt
  have hml : ln = m + 1 := by omega
  obtain ⟨x0, hx0⟩ : ∃ y, st.getD 0 0 = y := ⟨_, rfl⟩
  rw [hx0] at e0
  have HX := Lib.hid (And.intro hx0 (And.intro hml hst))
  have HR := Lib.hid (And.intro hr hrt)
  clear hm hml ha1 hc1 hx0 hst hr hrt hp0 hca
  go_enter Tryz.func72, Tryz.ntmps72
  go_wp2_with fail
  clear hix0 hdr e0
  go_loopw [8, 23] (fun vs vi wr => ∃ j o ao co, j ≤ m ∧ vi = .int .i64 ((j : Nat) : Int) ∧ vs = .slice ao (List.length o) co ∧ rowAt T (N + 1) st j = some o ∧ o.length ≤ 1 + j * 1048577 ∧ wr.ownsRow w.heap.size 3 1 (.slice ao o.length co) o.length (o.map (Value.int .i64)) ∧ Mod (fun _ => False) w wr) (fun _ vi _ => m - (intOf vi).toNat)
  case atStart => exact ⟨0, [x0], _, _, Nat.zero_le _, rfl, rfl, by unfold rowAt; rw [HX.out.1], by simp, World.ownsRow_lit (base := w.heap.size) (e := 3) (size := 1) w #[.int .i64 x0] 1 (Nat.le_refl _) (by unfold maxLen; omega) rfl, Mod.alloc _ _ _⟩
  case round =>
   obtain ⟨j, o, ao, co, hj, rfl, rfl, hrow, hol, hown, hmr⟩ := hrel
   by_cases hlt : j < m
   case pos =>
    have z1 : decide ((j : Int) < (m : Int)) = true := by simp; omega
    have hr2 := HR.out.1.keep hmr (fun _ _ e => e)
    have hrt2 := HR.out.2.keep hmr (fun _ _ e => e)
    obtain ⟨b1, o1, hp1, e1⟩ := rd1 hr2 j (by have := HX.out; omega)
    obtain ⟨b2, o2, hp2, e2⟩ := rd1 hrt2 j (by have := HX.out; rw [List.length_drop]; omega)
    rw [getD_at (by have := HX.out; omega)] at e1
    rw [drop1_at] at e2
    have hix1 := fun wx => run_indexS (P := Tryz.prog) wx 40 3 iI 1 Tryz.underlying40 hiI hsI a ln c j (by have := HX.out; omega) (hr2.some_ (by have := HX.out; omega))
    have hix2 := fun wx => run_indexS (P := Tryz.prog) wx 40 3 iI 1 Tryz.underlying40 hiI hsI a1 m c1 j hlt (hrt2.some_ (by omega))
    rw [hp1] at hix1
    rw [hp2] at hix2
    have HWX := Lib.hid (And.intro (HWF.out (st.getD j 0) (by rw [← getD_at (by have := HX.out; omega)]; exact List.getElem_mem _)) (HWF.out (st.getD (j + 1) 0) (by rw [← getD_at (by have := HX.out; omega)]; exact List.getElem_mem _)))
    obtain ⟨xf, hxf⟩ : ∃ y, st.getD j 0 = y := ⟨_, rfl⟩
    obtain ⟨xt, hxt⟩ : ∃ y, st.getD (j + 1) 0 = y := ⟨_, rfl⟩
    rw [hxf] at e1 HWX
    rw [hxt] at e2 HWX
    have HXX := Lib.hid (And.intro hxf hxt)
    have HO := Lib.hid (And.intro hrow (And.intro hown hmr))
    clear hxf hxt hr2 hrt2 hp1 hp2 hrow hown hmr
    obtain ⟨no, hno⟩ : ∃ y, o.length = y := ⟨_, rfl⟩
    rw [hno] at hol ⊢
    have HNO := Lib.hid hno
    clear hno
    have hj1 : j * 1048577 ≤ 1000 * 1048577 := Nat.mul_le_mul_right _ (by have := HX.out; omega)
    go_wp2_with fail
    refine (HSTEP.out _ HO.out.2.2 xf xt HWX.out.1 HWX.out.2).mono ?_
    rintro e w2 (⟨r, ax, cx, hu, h2, h3, rfl, ho2, hm2⟩ | ⟨hu, rfl, hm2⟩)
    ·
     have HU := Lib.hid (And.intro hu (And.intro ho2 hm2))
     clear hu ho2 hm2 hix1 hix2 e1 e2
     have hdp : ∀ wx, (Instr.slice 40 (.slice ax r.length cx) (some (.int .i64 1)) none none).run Tryz.prog wx = .ok (.slice (dropA ax cx 1 1) (r.length - 1) (cx - 1)) wx := fun wx => run_dropS wx 40 3 iI 1 Tryz.underlying40 hiI hsI ax r.length cx 1 (by omega)
     have HRR := Lib.hid ((Rd.ofOwn HU.out.2.1).drop (n := 1) (by omega))
     have HOO := Lib.hid (Own.keep HO.out.2.1 HU.out.2.2 (fun _ _ e => e))
     rw [HNO.out] at HOO
     go_upto_region 11 with (at_builtin; refine wpList_append_any rfl (.tmp 42) (.tmp 44) 40 rfl 3 iI (.int .i64 0) 1 8 Tryz.underlying40 hiI hzI hsI hbI rfl (by decide) _ no (o.map (Value.int .i64)) rfl (Own.base HOO.out (Nat.zero_le _)) _ (r.length - 1) ((r.map (Value.int .i64)).drop (1 * 1)) rfl HRR.out (by intro u hu; obtain ⟨_, _, rfl⟩ := List.mem_map.1 (List.mem_of_mem_drop hu); rfl) (by unfold maxLen; omega) (by omega) ?_; intro v' w5 hap; obtain ⟨a5, c5, rfl⟩ := hap.form; have HAP := Lib.hid hap; clear hap)
     clear hdp
     have hlen : (o ++ r.drop 1).length = no + (r.length - 1) := by rw [List.length_append, List.length_drop, HNO.out]
     have hW : Mod (fun _ => False) w w2 := HO.out.2.2.of2 HU.out.2.2
     have hv : ∀ k, (Value.slice ao no co).ownBlock = some k → w.heap.size ≤ k := fun k hk => (HOO.out.lt k hk).1
     have ho := Own.rebase HAP.out.own (HAP.out.low hW.size hv)
     rw [Nat.mul_one, ← List.map_drop, ← List.map_append] at ho
     have hmm := HAP.out.modOld hW hv
     have hrw := rowAt_step HO.out.1 (by rw [HXX.out.1, HXX.out.2]; exact HU.out.1)
     have HE := Lib.hid (And.intro ho (And.intro hmm (And.intro hrw hlen)))
     clear hlen hW hv ho hmm hrw
     go_wp2_with fail
     go_roundw
     case rel => exact ⟨j + 1, o ++ r.drop 1, a5, c5, hlt, rfl, by rw [HE.out.2.2.2], HE.out.2.2.1, by rw [HE.out.2.2.2]; omega, by rw [HE.out.2.2.2]; exact HE.out.1, HE.out.2.1⟩
     case measure => simp [intOf]; omega
    ·
     have HU := Lib.hid (And.intro hu hm2)
     clear hu hm2 hix1 hix2 e1 e2
     go_wp2_with fail
     go_ret2
     refine .inr ⟨?_, rfl, HO.out.2.2.of2 HU.out.2⟩
     unfold RowU
     rw [if_neg (by have := HX.out; omega)]
     have h1 := rowAt_stop (T := T) (k := N + 1) (st := st) (j := j) (by rw [HXX.out.1, HXX.out.2]; exact HU.out.1) (st.length - 1 - (j + 1))
     rw [show j + 1 + (st.length - 1 - (j + 1)) = st.length - 1 by have := HX.out; omega] at h1
     exact h1
   case neg =>
    obtain rfl : j = m := by omega
    have z1 : decide ((j : Int) < (j : Int)) = false := by simp
    have HO := Lib.hid (And.intro hrow (And.intro hown (And.intro hmr hol)))
    clear hrow hown hmr hol
    go_wp2_with fail
    go_ret2
    refine .inl ⟨o, ao, co, ?_, ?_, rfl, Rd.ofOwn HO.out.2.1, HO.out.2.2.1⟩
    ·
     unfold RowU
     rw [if_neg (by have := HX.out; omega), show st.length - 1 = j by have := HX.out; omega]
     exact HO.out.1
    ·
     exact Nat.le_trans HO.out.2.2.2 (Nat.add_le_add_left (Nat.mul_le_mul_right _ (by have := HX.out; omega)) 1)

theorem uarc_any {w : World} {p n N : Nat} {L T : List Ar} {V : List Nat} {D : Ar → Nat} {F : Nat → Prop} (h : LO w p n T V F) (hn : n ≤ 512) (hT : NetOk n T) (hL : NetOk n L) (hD : UnOk T D N) (hN : N ≤ 20) (hin : ∀ a ∈ T, a.m < 0 → a ∈ L) (f t : Int) (hwf : (Lit.int .i64 f).wf = true ∧ (Lit.int .i64 t).wf = true) :
  Calls Tryz.prog 33 #[.pointer (some ⟨p, 0, none⟩), .int .i64 f, .int .i64 t] w fun e w' => UdP T (N + 1) f t w e w' ∨ (unL T (N + 1) f t = none ∧ e = .returned (.tuple #[.slice none 0 0, .int .i64 4]) ∧ Mod (fun _ => False) w w') := by
 have HS := Lib.hid (ustep_any h hn hT hL hD hN hin f t hwf)
 clear h hT hL hD hin hwf
 go_enter Tryz.func33, Tryz.ntmps33
 go_wp2_with fail
 refine HS.out.mono ?_
 rintro e w2 (⟨r, ax, cx, hu, h2, h3, rfl, ho2, hm2⟩ | ⟨hu, rfl, hm2⟩)
 ·
  have HU := Lib.hid (And.intro hu (And.intro ho2 hm2))
  clear hu ho2 hm2
  go_wp2_with fail
  go_ret2
  exact .inl ⟨r, ax, cx, HU.out.1, h2, h3, rfl, HU.out.2.1, HU.out.2.2⟩
 ·
  have HU := Lib.hid (And.intro hu hm2)
  clear hu hm2
  go_wp2_with fail
  go_ret2
  exact .inr ⟨HU.out.1, rfl, HU.out.2⟩
theorem unfolded_nil (w : World) (f t : Int) (fv : Value) : Calls Tryz.prog 70 #[.pointer none, .int .i64 f, .int .i64 t, fv] w fun e w' => e = .returned (.tuple #[.slice none 0 0, .int .i64 4]) ∧ Mod (fun _ => False) w w' := by
 go_enter Tryz.func70, Tryz.ntmps70
 go_wp2_with fail
 go_ret2
 exact ⟨rfl, Mod.refl _ _⟩
theorem uarc_nil (w : World) (f t : Int) : Calls Tryz.prog 33 #[.pointer none, .int .i64 f, .int .i64 t] w fun e w' => e = .returned (.tuple #[.slice none 0 0, .int .i64 4]) ∧ Mod (fun _ => False) w w' := by
 go_enter Tryz.func33, Tryz.ntmps33
 go_wp2_with fail
 refine (unfolded_nil _ _ _ _).mono ?_
 rintro e w2 ⟨rfl, hm2⟩
 have HU := Lib.hid hm2
 clear hm2
 go_wp2_with fail
 go_ret2
 exact ⟨rfl, HU.out⟩

theorem urowp_any {w : World} {p n N : Nat} {L T : List Ar} {V : List Nat} {D : Ar → Nat} {F : Nat → Prop} (h : LO w p n T V F) (hn : n ≤ 512) (hT : NetOk n T) (hL : NetOk n L) (hD : UnOk T D N) (hN : N ≤ 20) (hin : ∀ a ∈ T, a.m < 0 → a ∈ L) (a : Option Addr) (ln c : Nat) (st : List Int) (hst : st.length = ln) (hr : Rd w 1 (.slice a ln c) ln (st.map (Value.int .i64))) (hl : ln ≤ 1000) (hwf : ∀ x ∈ st, (Lit.int .i64 x).wf = true) :
  Calls Tryz.prog 35 #[.pointer (some ⟨p, 0, none⟩), .slice a ln c] w (UrP T (N + 1) st w) := by
 have HS := Lib.hid (urow_any h hn hT hL hD hN hin a ln c st hst hr hl hwf)
 clear h hT hL hD hin hwf hst hr hl
 go_enter Tryz.func35, Tryz.ntmps35
 go_wp2_with fail
 refine HS.out.mono ?_
 rintro e w2 (⟨o, ax, cx, hu, h2, rfl, ho2, hm2⟩ | ⟨hu, rfl, hm2⟩)
 ·
  have HU := Lib.hid (And.intro hu (And.intro h2 (And.intro ho2 hm2)))
  clear hu h2 ho2 hm2
  go_wp2_with fail
  go_ret2
  exact .inl ⟨o, ax, cx, HU.out.1, HU.out.2.1, rfl, HU.out.2.2.1, HU.out.2.2.2⟩
 ·
  have HU := Lib.hid (And.intro hu hm2)
  clear hu hm2
  go_wp2_with fail
  go_ret2
  exact .inr ⟨HU.out.1, rfl, HU.out.2⟩

end Go.Proofs.YtjjedebjbgpimaaGreat
