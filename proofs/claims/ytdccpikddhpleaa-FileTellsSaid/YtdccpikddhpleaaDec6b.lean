/- file.read, bytes.Equal and file.Decode by contract. -/
import Derived.Test.YtdccpikddhpleaaDec6
import Derived.Deep.DeepCutAuto
import Derived.Deep.CutBlock
namespace Mile
open Go Go.RowKit
theorem strOf_inj3 {cs bs : List Int} (hc : ∀ x ∈ cs, 0 ≤ x ∧ x < 256) (hb : ∀ x ∈ bs, 0 ≤ x ∧ x < 256) (h : strOf cs = strOf bs) : cs = bs := by
  have key : ∀ (l : List Int) (r : ByteArray), (l.foldl (fun r n => r.push (UInt8.ofNat n.toNat)) r).data.toList = r.data.toList ++ l.map (fun n => UInt8.ofNat n.toNat) := by
    intro l
    induction l with
    | nil => intro r; simp
    | cons n l ih => intro r; rw [List.foldl_cons, ih]; simp
  have e1 := key cs ByteArray.empty
  have e2 := key bs ByteArray.empty
  have h' : (cs.foldl (fun r n => r.push (UInt8.ofNat n.toNat)) ByteArray.empty).data.toList = (bs.foldl (fun r n => r.push (UInt8.ofNat n.toNat)) ByteArray.empty).data.toList := by
    have : strOf cs = strOf bs := h
    unfold strOf at this; rw [this]
  rw [e1, e2, List.append_cancel_left_eq] at h'
  clear e1 e2 h key
  induction cs generalizing bs with
  | nil => cases bs with
    | nil => rfl
    | cons b bs => simp at h'
  | cons c cs ih =>
    cases bs with
    | nil => simp at h'
    | cons b bs =>
      simp only [List.map_cons, List.cons.injEq] at h'
      have h1 := hc c (by simp)
      have h2 := hb b (by simp)
      have h3 := congrArg UInt8.toNat h'.1
      simp at h3
      rw [ih (fun x hx => hc x (by simp [hx])) (fun x hx => hb x (by simp [hx])) h'.2, show c = b by omega]
theorem bytes_beq_ne3 {a b : ByteArray} (h : a ≠ b) : (a == b) = false := by
  cases a with
  | mk x =>
    cases b with
    | mk y =>
      show (x == y) = false
      rw [beq_eq_false_iff_ne]
      intro e; exact h (by rw [e])
theorem map_at {b : List Int} {j : Nat} (h : j < b.length) : (b.map (Value.int .u8))[j]? = some (.int .u8 (b.getD j 0)) := by simp [List.getD, h]
end Mile
namespace Go.Proofs.Ytdccpikddhpleaa
open Go.RowKit Mile
set_option maxRecDepth 100000
/-- What stands where Encode writes it, be it right or wrong. -/
def pS1 (b : List Int) : RS := (takeS 4 (some b)).2
def pS2 (b : List Int) : RS := (numR 2 (pS1 b)).2
def pS3 (b : List Int) : RS := (numR 2 (pS2 b)).2
def pS4 (b : List Int) : RS := (numR 2 (pS3 b)).2
def pN (b : List Int) := rowsL rdNode (numR 2 (pS1 b)).1.toNat (pS4 b)
def pE (b : List Int) := rowsL rdEdge (numR 2 (pS2 b)).1.toNat (pN b).2
def pB (b : List Int) := rowsL rdNode (numR 2 (pS3 b)).1.toNat (pE b).2
def parseG (b : List Int) : GD := ⟨(pN b).1, (pE b).1, (pB b).1⟩
theorem equal_any (w : World) (a : Option Addr) (n c : Nat) (xs : List Int) (hn : xs.length = n) (hr : Rd w 1 (.slice a n c) n (xs.map (Value.int .u8))) (hx : ∀ x ∈ xs, 0 ≤ x ∧ x < 256)
    (a2 : Option Addr) (n2 d2 : Nat) (ys : List Int) (hn2 : ys.length = n2) (hr2 : Rd w 1 (.slice a2 n2 d2) n2 (ys.map (Value.int .u8))) (hy : ∀ x ∈ ys, 0 ≤ x ∧ x < 256) :
    Calls Try.prog 25 #[.slice a n c, .slice a2 n2 d2] w fun e w' => e = .returned (.bool (decide (xs = ys))) ∧ w = w' := by
  have k1 := run_strS w 27 9 5 Try.underlying27 Try.underlying5 Try.underlying9 hr
  have k2 := run_strS w 27 9 5 Try.underlying27 Try.underlying5 Try.underlying9 hr2
  obtain ⟨r, hres⟩ : ∃ r, decide (xs = ys) = r := ⟨_, rfl⟩
  rw [hres]
  have hxy : ((strOf xs).toList == (strOf ys).toList) = r := by
    rw [← beq_toListBytes, ← hres]
    by_cases h : xs = ys
    · subst h
      simp
      cases strOf xs with | mk x => show (x == x) = true; simp
    · rw [decide_eq_false h]; exact bytes_beq_ne3 (fun e => h (strOf_inj3 hx hy e))
  obtain ⟨X, hX⟩ : ∃ X, strOf xs = X := ⟨_, rfl⟩
  obtain ⟨Y, hY⟩ : ∃ Y, strOf ys = Y := ⟨_, rfl⟩
  rw [hX] at k1 hxy
  rw [hY] at k2 hxy
  clear hX hY hres hr hr2
  go_enter Try.func25, Try.ntmps25
  go_wp2_with fail
  go_ret
  exact ⟨by rw [← hxy]; rfl, rfl⟩
set_option maxHeartbeats 8000000 in
theorem fread_any (w : World) (a : Option Addr) (n c : Nat) (b : List Int) (hn : b.length = n) (hr : Rd w 1 (.slice a n c) n (b.map (Value.int .u8))) (hb : ∀ x ∈ b, 0 ≤ x ∧ x < 256) (hm : n ≤ 1000000) :
    Calls Try.prog 24 #[.slice a n c] w fun e w' => ∃ a1 n1 d1 a2 n2 d2 a3 n3 d3, e = .returned (.agg #[.slice a1 n1 d1, .slice a2 n2 d2, .slice a3 n3 d3]) ∧ GV w' a1 n1 d1 a2 n2 d2 a3 n3 d3 (parseG b) ∧ Mod (fun _ => False) w w' ∧ (∀ k, (Value.slice a1 n1 d1).ownBlock = some k → w.heap.size ≤ k) ∧ (∀ k, (Value.slice a2 n2 d2).ownBlock = some k → w.heap.size ≤ k) ∧ (∀ k, (Value.slice a3 n3 d3).ownBlock = some k → w.heap.size ≤ k) := by
  obtain ⟨q, hq⟩ : ∃ q, w.heap.size = q := ⟨_, rfl⟩
  obtain ⟨w0, hw0⟩ : ∃ W, w.alloc (.cells #[.slice none 0 0, .slice none 0 0, .slice none 0 0] 26) = W := ⟨_, rfl⟩
  have hb0 : Blk w0 q 26 [.slice none 0 0, .slice none 0 0, .slice none 0 0] := by rw [← hw0, ← hq]; exact Blk.new w 26 [.slice none 0 0, .slice none 0 0, .slice none 0 0]
  have hm0 : Mod (fun _ => False) w w0 := by rw [← hw0]; exact Mod.alloc _ _ _
  have hr0 := hr.keep hm0 (fun _ _ e => e)
  have HM0 := Lib.hid hm0
  have hsz0 : w.heap.size ≤ w0.heap.size := hm0.size
  clear hm0
  go_enter Try.func24, Try.ntmps24
  go_upto_region 1 with fail
  try rw [hw0]
  try rw [hq]
  clear hw0
  go_wp2_with fail
  rw [← hn] at hr0
  have hrd0 := read_any w0 (.slice a b.length c) b hr0 (by omega)
  rw [hn] at hrd0
  refine hrd0.mono ?_
  rintro e w1 ⟨p, F, rfl, h1, hlow, hm1⟩
  clear hrd0
  have hs1 : RdSt w0 w1 p (some b) F := ⟨h1, hlow, rdr_self h1, hm1⟩
  have hqF : ¬ F q := fun e => by have h1 := hlow q e; have h2 := hb0.lt; omega
  have hqp : ¬ q = p := fun e => hqF (by rw [e]; exact hs1.self)
  have hg1 : RgS (some b) := hb
  clear h1 hlow hm1
  go_wp2_with fail
  refine (rraw_any p w1 _ F hs1.r 4 (by simp; omega)).mono ?_
  rintro e w2 ⟨v2, rfl, _, h2, hm2⟩
  have hs2 := hs1.aft h2 hm2
  have hg2 : RgS (pS1 b) := rg_take 4 hg1
  have hs2 : RdSt w0 w2 p (pS1 b) F := hs2
  clear h2 hm2 hs1
  go_wp2_with fail
  refine (num_any p w2 (pS1 b) F hs2.r hg2 2).mono ?_
  rintro e w3 ⟨rfl, hh, hmm⟩
  have hs3 : RdSt w0 w3 p (pS2 b) F := hs2.aft hh hmm
  have hg3 : RgS (pS2 b) := rg_num hg2
  have hk := num2_range hg2
  obtain ⟨k1, hk1⟩ := Int.eq_ofNat_of_zero_le hk.1
  rw [hk1] at hk ⊢
  have hkb1 : k1 ≤ 65535 := by omega
  have HK1 := Lib.hid hk1
  clear hh hmm hk hk1 hs2
  go_wp2_with fail
  refine (num_any p w3 (pS2 b) F hs3.r hg3 2).mono ?_
  rintro e w4 ⟨rfl, hh, hmm⟩
  have hs4 : RdSt w0 w4 p (pS3 b) F := hs3.aft hh hmm
  have hg4 : RgS (pS3 b) := rg_num hg3
  have hk := num2_range hg3
  obtain ⟨k2, hk2⟩ := Int.eq_ofNat_of_zero_le hk.1
  rw [hk2] at hk ⊢
  have hkb2 : k2 ≤ 65535 := by omega
  have HK2 := Lib.hid hk2
  clear hh hmm hk hk2 hs3
  go_wp2_with fail
  refine (num_any p w4 (pS3 b) F hs4.r hg4 2).mono ?_
  rintro e w5 ⟨rfl, hh, hmm⟩
  have hs5 : RdSt w0 w5 p (pS4 b) F := hs4.aft hh hmm
  have hg5 : RgS (pS4 b) := rg_num hg4
  have hk := num2_range hg4
  obtain ⟨k3, hk3⟩ := Int.eq_ofNat_of_zero_le hk.1
  rw [hk3] at hk ⊢
  have hkb3 : k3 ≤ 65535 := by omega
  have HK3 := Lib.hid hk3
  clear hh hmm hk hk3 hs4
  go_wp2_with fail
  refine (rows_node p w5 (pS4 b) F hs5.r hg5 k1 hkb1).mono ?_
  rintro e w6 ⟨a1, d1, rfl, ho1, hh, hmm⟩
  have heq : rowsL rdNode k1 (pS4 b) = pN b := by unfold pN; rw [HK1.out]; rfl
  rw [heq] at ho1 hh ⊢
  have hs6 : RdSt w0 w6 p (pN b).2 F := hs5.aft hh hmm
  have hg6 : RgS (pN b).2 := by rw [← heq]; exact rowsL_rg rdNode (fun _ h => rg_node h) _ _ hg5
  have hpl5 : p < w5.heap.size := rdr_lt hs5.r p hs5.self
  have hsz5 : w0.heap.size ≤ w5.heap.size := hs5.mod.size
  obtain ⟨n1, hn1⟩ : ∃ n, (pN b).1.length = n := ⟨_, rfl⟩
  rw [hn1] at ho1 ⊢
  have HN1 := Lib.hid hn1
  clear hh hmm heq hn1 hs5
  go_wp2_with fail
  refine (rows_edge p w6 ((pN b).2) F hs6.r hg6 k2 hkb2).mono ?_
  rintro e w7 ⟨a2, d2, rfl, ho2, hh, hmm⟩
  have heq : rowsL rdEdge k2 ((pN b).2) = pE b := by unfold pE; rw [HK2.out]; rfl
  rw [heq] at ho2 hh ⊢
  have hs7 : RdSt w0 w7 p (pE b).2 F := hs6.aft hh hmm
  have hg7 : RgS (pE b).2 := by rw [← heq]; exact rowsL_rg rdEdge (fun _ h => rg_edge h) _ _ hg6
  have hpl6 : p < w6.heap.size := rdr_lt hs6.r p hs6.self
  have ho1 := Own.keep ho1 hmm (fun k hk e => by have h1 := (ho1.lt k hk).1; have h2 : k = p := e; omega)
  have hsz6 : w0.heap.size ≤ w6.heap.size := hs6.mod.size
  obtain ⟨n2, hn2⟩ : ∃ n, (pE b).1.length = n := ⟨_, rfl⟩
  rw [hn2] at ho2 ⊢
  have HN2 := Lib.hid hn2
  clear hh hmm heq hn2 hs6
  go_wp2_with fail
  refine (rows_ban p w7 ((pE b).2) F hs7.r hg7 k3 hkb3).mono ?_
  rintro e w8 ⟨a3, d3, rfl, ho3, hh, hmm⟩
  have heq : rowsL rdNode k3 ((pE b).2) = pB b := by unfold pB; rw [HK3.out]; rfl
  rw [heq] at ho3 hh ⊢
  have hs8 : RdSt w0 w8 p (pB b).2 F := hs7.aft hh hmm
  have hg8 : RgS (pB b).2 := by rw [← heq]; exact rowsL_rg rdNode (fun _ h => rg_node h) _ _ hg7
  have hpl7 : p < w7.heap.size := rdr_lt hs7.r p hs7.self
  have ho1 := Own.keep ho1 hmm (fun k hk e => by have h1 := (ho1.lt k hk).1; have h2 : k = p := e; omega)
  have ho2 := Own.keep ho2 hmm (fun k hk e => by have h1 := (ho2.lt k hk).1; have h2 : k = p := e; omega)
  have hsz7 : w0.heap.size ≤ w7.heap.size := hs7.mod.size
  obtain ⟨n3, hn3⟩ : ∃ n, (pB b).1.length = n := ⟨_, rfl⟩
  rw [hn3] at ho3 ⊢
  have HN3 := Lib.hid hn3
  clear hh hmm heq hn3 hs7
  have hb8 := hb0.keep hs8.mod (fun e => e)
  have hbq := hb0.lt
  have hq1 : ∀ k, w5.heap.size ≤ k → ¬ k = q := fun k hk e => by omega
  have hq2 : ∀ k, w6.heap.size ≤ k → ¬ k = q := fun k hk e => by omega
  have hq3 : ∀ k, w7.heap.size ≤ k → ¬ k = q := fun k hk e => by omega
  have c0 := hb8.cell 0 rfl
  have c1 := hb8.cell 1 rfl
  have c2 := hb8.cell 2 rfl
  have f0 := hb8.free 0
  have f1 := hb8.free 1
  have f2 := hb8.free 2
  have lq := hb8.lt
  have HB := Lib.hid hb8
  have HO1 := Lib.hid ho1
  have HO2 := Lib.hid ho2
  have HO3 := Lib.hid ho3
  have HMS := Lib.hid (HM0.out.of2 hs8.mod)
  have HZ := Lib.hid (And.intro (fun k hk => Nat.le_trans (Nat.le_trans hsz0 hsz5) (ho1.lt k hk).1) (And.intro (fun k hk => Nat.le_trans (Nat.le_trans hsz0 hsz6) (ho2.lt k hk).1) (fun k hk => Nat.le_trans (Nat.le_trans hsz0 hsz7) (ho3.lt k hk).1)))
  clear hb8 ho1 ho2 ho3 hs8 hb0 hsz0 hsz5 hsz6 hsz7
  go_wp2_with fail
  have b2 := (((HB.out.set 0 (.slice a1 n1 d1)).set 1 (.slice a2 n2 d2)).set 2 (.slice a3 n3 d3))
  have hm2 := (((Mod.setCell (F := fun k => k = q) (w8) ⟨q, 0, none⟩ (.slice a1 n1 d1) rfl).trans (Mod.setCell (F := fun k => k = q) (World.setCell (w8) ⟨q, 0, none⟩ (.slice a1 n1 d1)) ⟨q, 1, none⟩ (.slice a2 n2 d2) rfl) (fun _ _ e => e) (fun _ _ e => e)).trans (Mod.setCell (F := fun k => k = q) (World.setCell (World.setCell (w8) ⟨q, 0, none⟩ (.slice a1 n1 d1)) ⟨q, 1, none⟩ (.slice a2 n2 d2)) ⟨q, 2, none⟩ (.slice a3 n3 d3) rfl) (fun _ _ e => e) (fun _ _ e => e))
  (try simp only [Exit.inBlock, Exit.then])
  refine bodyPost_ret (results_cell_row rfl _ _ q 26 #[.slice a1 n1 d1, .slice a2 n2 d2, .slice a3 n3 d3] (0, 0) _ rfl b2 Try.underlying26 rfl (by kernel_rfl)) rfl ?_
  refine ⟨a1, n1, d1, a2, n2, d2, a3, n3, d3, rfl, ⟨HN1.out, HN2.out, HN3.out, ?_, ?_, ?_⟩, HMS.out.old hm2 (fun i hi => by rw [hi, ← hq]; exact Nat.le_refl _), HZ.out⟩
  · exact Rd.ofOwn (Own.keep HO1.out hm2 (fun k hk e => hq1 k (HO1.out.lt k hk).1 e))
  · exact Rd.ofOwn (Own.keep HO2.out hm2 (fun k hk e => hq2 k (HO2.out.lt k hk).1 e))
  · exact Rd.ofOwn (Own.keep HO3.out hm2 (fun k hk e => hq3 k (HO3.out.lt k hk).1 e))
/-- What Decode tells. -/
def DecP (b : List Int) (w : World) (e : Ending) (w' : World) : Prop :=
  ((May (parseG b) ∧ fileG (parseG b) = b) ∧ ∃ a1 n1 d1 a2 n2 d2 a3 n3 d3, e = .returned (.tuple #[.agg #[.slice a1 n1 d1, .slice a2 n2 d2, .slice a3 n3 d3], .int .i64 0]) ∧ GV w' a1 n1 d1 a2 n2 d2 a3 n3 d3 (parseG b) ∧ Mod (fun _ => False) w w') ∨
  (¬ (May (parseG b) ∧ fileG (parseG b) = b) ∧ e = .returned (.tuple #[.agg #[.slice none 0 0, .slice none 0 0, .slice none 0 0], .int .i64 2]) ∧ Mod (fun _ => False) w w')
set_option maxHeartbeats 8000000 in
theorem decode_any (w : World) (a : Option Addr) (n c : Nat) (b : List Int) (hn : b.length = n) (hr : Rd w 1 (.slice a n c) n (b.map (Value.int .u8))) (hb : ∀ x ∈ b, 0 ≤ x ∧ x < 256) (hm : n ≤ 1000000) :
    Calls Try.prog 11 #[.slice a n c] w (DecP b w) := by
  have HB := Lib.hid hb
  have HN := Lib.hid hn
  clear hb hn
  obtain ⟨q, hq⟩ : ∃ q, w.heap.size = q := ⟨_, rfl⟩
  obtain ⟨w0, hw0⟩ : ∃ W, w.alloc (.cells #[.slice none 0 0, .slice none 0 0, .slice none 0 0] 26) = W := ⟨_, rfl⟩
  have hb0 : Blk w0 q 26 [.slice none 0 0, .slice none 0 0, .slice none 0 0] := by rw [← hw0, ← hq]; exact Blk.new w 26 [.slice none 0 0, .slice none 0 0, .slice none 0 0]
  have hm0 : Mod (fun _ => False) w w0 := by rw [← hw0]; exact Mod.alloc _ _ _
  have HR := Lib.hid hr
  go_enter Try.func11, Try.ntmps11
  go_upto_region 1 with fail
  try rw [hw0]
  try rw [hq]
  clear hw0
  go_wp2_with fail
  refine (fread_any w0 a n c b HN.out (HR.out.keep hm0 (fun _ _ e => e)) HB.out hm).mono ?_
  rintro e w1 ⟨a1, n1, d1, a2, n2, d2, a3, n3, d3, rfl, hg, hm1, hz1, hz2, hz3⟩
  have hlq0 := hb0.lt
  have HZ := Lib.hid (And.intro (fun k hk => Nat.lt_of_lt_of_le hlq0 (hz1 k hk)) (And.intro (fun k hk => Nat.lt_of_lt_of_le hlq0 (hz2 k hk)) (fun k hk => Nat.lt_of_lt_of_le hlq0 (hz3 k hk))))
  clear hz1 hz2 hz3 hlq0
  obtain ⟨G, hG⟩ : ∃ G, parseG b = G := ⟨_, rfl⟩
  rw [hG] at hg
  have HG := Lib.hid hG
  clear hG
  have hm01 := hm0.of2 hm1
  go_upto_region 2 with fail
  obtain ⟨g, hgq⟩ : ∃ g, w1.heap.size = g := ⟨_, rfl⟩
  obtain ⟨w2, hw2⟩ : ∃ W, w1.alloc (.cells #[.slice a1 n1 d1, .slice a2 n2 d2, .slice a3 n3 d3] 26) = W := ⟨_, rfl⟩
  have hB2 : Blk w2 g 26 [.slice a1 n1 d1, .slice a2 n2 d2, .slice a3 n3 d3] := by rw [← hw2, ← hgq]; exact Blk.new w1 26 [.slice a1 n1 d1, .slice a2 n2 d2, .slice a3 n3 d3]
  have hm2 : Mod (fun _ => False) w1 w2 := by rw [← hw2]; exact Mod.alloc _ _ _
  try rw [hw2]
  try rw [hgq]
  clear hw2
  have hg2 := hg.keep hm2
  have hm02 := hm01.of2 hm2
  have hq2 := (hb0.keep hm1 (fun e => e)).keep hm2 (fun e => e)
  have HGV := Lib.hid hg2
  have HM2 := Lib.hid hm02
  have HQ2 := Lib.hid hq2
  have qg0 := hB2.cell 0 rfl
  have qg1 := hB2.cell 1 rfl
  have qg2 := hB2.cell 2 rfl
  have lg := hB2.lt
  have HB2 := Lib.hid hB2
  clear hg hg2 hm0 hm1 hm2 hm01 hm02 hq2 hb0 hB2 hgq
  go_wp2_with fail
  refine (encode_any G w2 a1 n1 d1 a2 n2 d2 a3 n3 d3 HGV.out).mono ?_
  rintro e w3 hp
  have HP := Lib.hid hp
  clear qg0 qg1 qg2 lg hp
  rcases HP.out with ⟨hmay, x1, y1, rfl, hown, hm3⟩ | ⟨hnm, rfl, hm3⟩
  case inr =>
    have HNO : Hid (¬ (May (parseG b) ∧ fileG (parseG b) = b)) := Lib.hid (fun h => hnm (by rw [← HG.out]; exact h.1))
    clear hnm HP
    have hqq := HQ2.out.keep hm3 (fun e => e)
    have c0 := hqq.cell 0 rfl
    have c1 := hqq.cell 1 rfl
    have c2 := hqq.cell 2 rfl
    have f0 := hqq.free 0
    have f1 := hqq.free 1
    have f2 := hqq.free 2
    have lq := hqq.lt
    have HQQ := Lib.hid hqq
    clear hqq
    have HM3 := Lib.hid hm3
    clear hm3
    go_wp2_with fail
    have b2 := (((HQQ.out.set 0 (.slice none 0 0)).set 1 (.slice none 0 0)).set 2 (.slice none 0 0))
    have hms := (((Mod.setCell (F := fun k => k = q) (w3) ⟨q, 0, none⟩ (.slice none 0 0) rfl).trans (Mod.setCell (F := fun k => k = q) (World.setCell (w3) ⟨q, 0, none⟩ (.slice none 0 0)) ⟨q, 1, none⟩ (.slice none 0 0) rfl) (fun _ _ e => e) (fun _ _ e => e)).trans (Mod.setCell (F := fun k => k = q) (World.setCell (World.setCell (w3) ⟨q, 0, none⟩ (.slice none 0 0)) ⟨q, 1, none⟩ (.slice none 0 0)) ⟨q, 2, none⟩ (.slice none 0 0) rfl) (fun _ _ e => e) (fun _ _ e => e))
    (try simp only [Exit.inBlock, Exit.then])
    refine bodyPost_ret (results_row_tmp rfl _ _ q 26 #[.slice none 0 0, .slice none 0 0, .slice none 0 0] (0, 0) _ rfl b2 Try.underlying26 rfl (by kernel_rfl)) rfl ?_
    have hmz := (HM2.out.of2 HM3.out).old hms (fun i hi => by rw [hi, ← hq]; exact Nat.le_refl _)
    exact .inr ⟨HNO.out, rfl, hmz⟩
  case inl =>
    have HMAY := Lib.hid hmay
    have HOW := Lib.hid hown
    have HM3 := Lib.hid hm3
    clear hmay hown hm3 HP
    obtain ⟨ln, hln⟩ : ∃ k, (fileG G).length = k := ⟨_, rfl⟩
    have hro := Rd.ofOwn HOW.out
    rw [hln] at hro ⊢
    have hrb := HR.out.keep (HM2.out.of2 HM3.out) (fun _ _ e => e)
    have HEQ := Lib.hid (equal_any w3 x1 ln y1 (fileG G) hln hro (fileG_range G) a n c b HN.out hrb HB.out)
    clear hro hrb hln
    go_wp2_with fail
    refine (HEQ.out).mono ?_
    rintro e w' ⟨rfl, rfl⟩
    by_cases hfe : fileG G = b
    case neg =>
      have hd : decide (fileG G = b) = false := decide_eq_false hfe
      rw [hd]
      have HNO : Hid (¬ (May (parseG b) ∧ fileG (parseG b) = b)) := Lib.hid (fun h => hfe (by rw [← HG.out]; exact h.2))
      have hm3 := HM3.out
      clear hfe hd HM3
      have hqq := HQ2.out.keep hm3 (fun e => e)
      have c0 := hqq.cell 0 rfl
      have c1 := hqq.cell 1 rfl
      have c2 := hqq.cell 2 rfl
      have f0 := hqq.free 0
      have f1 := hqq.free 1
      have f2 := hqq.free 2
      have lq := hqq.lt
      have HQQ := Lib.hid hqq
      clear hqq
      have HM3 := Lib.hid hm3
      clear hm3
      go_wp2_with fail
      have b2 := (((HQQ.out.set 0 (.slice none 0 0)).set 1 (.slice none 0 0)).set 2 (.slice none 0 0))
      have hms := (((Mod.setCell (F := fun k => k = q) (w3) ⟨q, 0, none⟩ (.slice none 0 0) rfl).trans (Mod.setCell (F := fun k => k = q) (World.setCell (w3) ⟨q, 0, none⟩ (.slice none 0 0)) ⟨q, 1, none⟩ (.slice none 0 0) rfl) (fun _ _ e => e) (fun _ _ e => e)).trans (Mod.setCell (F := fun k => k = q) (World.setCell (World.setCell (w3) ⟨q, 0, none⟩ (.slice none 0 0)) ⟨q, 1, none⟩ (.slice none 0 0)) ⟨q, 2, none⟩ (.slice none 0 0) rfl) (fun _ _ e => e) (fun _ _ e => e))
      (try simp only [Exit.inBlock, Exit.then])
      refine bodyPost_ret (results_row_tmp rfl _ _ q 26 #[.slice none 0 0, .slice none 0 0, .slice none 0 0] (0, 0) _ rfl b2 Try.underlying26 rfl (by kernel_rfl)) rfl ?_
      have hmz := (HM2.out.of2 HM3.out).old hms (fun i hi => by rw [hi, ← hq]; exact Nat.le_refl _)
      exact .inr ⟨HNO.out, rfl, hmz⟩
    case pos =>
      have hd : decide (fileG G = b) = true := decide_eq_true hfe
      rw [hd]
      have HYES : Hid (May (parseG b) ∧ fileG (parseG b) = b) := Lib.hid (by rw [HG.out]; exact ⟨HMAY.out, hfe⟩)
      have hm3 := HM3.out
      clear hfe hd HM3
      have hqq := HQ2.out.keep hm3 (fun e => e)
      have c0 := hqq.cell 0 rfl
      have c1 := hqq.cell 1 rfl
      have c2 := hqq.cell 2 rfl
      have f0 := hqq.free 0
      have f1 := hqq.free 1
      have f2 := hqq.free 2
      have lq := hqq.lt
      have HQQ := Lib.hid hqq
      clear hqq
      have hbg := HB2.out.keep hm3 (fun e => e)
      have qg0 := hbg.cell 0 rfl
      have qg1 := hbg.cell 1 rfl
      have qg2 := hbg.cell 2 rfl
      have lg := hbg.lt
      clear hbg
      have HM3 := Lib.hid hm3
      clear hm3
      go_wp2_with fail
      have b2 := (((HQQ.out.set 0 (.slice a1 n1 d1)).set 1 (.slice a2 n2 d2)).set 2 (.slice a3 n3 d3))
      have hms := (((Mod.setCell (F := fun k => k = q) (w3) ⟨q, 0, none⟩ (.slice a1 n1 d1) rfl).trans (Mod.setCell (F := fun k => k = q) (World.setCell (w3) ⟨q, 0, none⟩ (.slice a1 n1 d1)) ⟨q, 1, none⟩ (.slice a2 n2 d2) rfl) (fun _ _ e => e) (fun _ _ e => e)).trans (Mod.setCell (F := fun k => k = q) (World.setCell (World.setCell (w3) ⟨q, 0, none⟩ (.slice a1 n1 d1)) ⟨q, 1, none⟩ (.slice a2 n2 d2)) ⟨q, 2, none⟩ (.slice a3 n3 d3) rfl) (fun _ _ e => e) (fun _ _ e => e))
      (try simp only [Exit.inBlock, Exit.then])
      refine bodyPost_ret (results_row_tmp rfl _ _ q 26 #[.slice a1 n1 d1, .slice a2 n2 d2, .slice a3 n3 d3] (0, 0) _ rfl b2 Try.underlying26 rfl (by kernel_rfl)) rfl ?_
      have hmz := (HM2.out.of2 HM3.out).old hms (fun i hi => by rw [hi, ← hq]; exact Nat.le_refl _)
      refine .inl ⟨HYES.out, a1, n1, d1, a2, n2, d2, a3, n3, d3, rfl, ?_, hmz⟩
      rw [HG.out]
      have hg3 := HGV.out.keep HM3.out
      refine ⟨hg3.n, hg3.e, hg3.b, hg3.rn.keepA hms (fun k hk e => ?_), hg3.re.keepA hms (fun k hk e => ?_), hg3.rb.keepA hms (fun k hk e => ?_)⟩
      · have h1 := HZ.out.1 k hk; have h2 : k = q := e; omega
      · have h1 := HZ.out.2.1 k hk; have h2 : k = q := e; omega
      · have h1 := HZ.out.2.2 k hk; have h2 : k = q := e; omega
end Go.Proofs.Ytdccpikddhpleaa
