/- slices.Insert of one element, by contract. -/
import Derived.Test.YtnklgeekjkchbaaIns
import Derived.Test.YtnklgeekjkchbaaNet1
namespace Go.Proofs.Ytnklgeekjkchbaa
open Go.RowKit Mile
set_option maxRecDepth 100000
/-- What it leaves and tells. -/
def InsIP (a : Option Addr) (n c i : Nat) (xs x : List Value) (w : World) (e : Ending) (w' : World) : Prop :=
  ∃ a' c', e = .returned (.slice a' (n + 1) c') ∧ w'.ownsRow 0 3 1 (.slice a' (n + 1) c') (n + 1) (xs.take (i * 1) ++ x ++ xs.drop (i * 1)) ∧ Mod (fun k => (Value.slice a n c).ownBlock = some k) w w' ∧ ∀ k, (Value.slice a' (n + 1) c').ownBlock = some k → (Value.slice a n c).ownBlock = some k ∨ w.heap.size ≤ k
set_option maxHeartbeats 8000000 in
theorem insI_end (w : World) (a : Option Addr) (n c i : Nat) (xs : List Value) (h1 : ∀ u ∈ xs, u.oneCell' = true) (ho : w.ownsRow 0 3 1 (.slice a n c) n xs) (hn : n ≤ 100000) (gv : Nat) (x : List Value) (hx : Rd w 1 (.slice (some ⟨gv, 0, none⟩) 1 1) 1 x) (hxb : Blk w gv 3 x) (hx1 : ∀ u ∈ x, u.oneCell' = true) (hne : (Value.slice a n c).ownBlock ≠ some gv) (hi : i = n) :
    Calls Try.prog 59 #[.slice a n c, .int .i64 (i : Int), .slice (some ⟨gv, 0, none⟩) 1 1] w fun e w' => InsIP a n c i xs x w e w' := by
  obtain ⟨iA, hiA, hzA, hsA, hbA⟩ := info_parts Nt.infoI
  have hdr := fun wx => run_dropS (P := Try.prog) wx 56 3 iA 1 Try.underlying56 hiA hsA a n c i (by omega)
  have z0 : ((1 : Int) == 0) = false := by decide
  have z1 : ((i : Int) == (n : Int)) = true := by simp; omega
  have hmx1 : n + 1 ≤ maxLen := by unfold maxLen; omega
  have HO := Lib.hid ho
  have HX := Lib.hid hx
  have hxl : xs.length = i * 1 := by rw [ho.1, hi]
  have HXL := Lib.hid hxl
  clear ho hx hxb hne h1 hxl hi
  go_enter Try.func59, Try.ntmps59
  go_wp2_with (first | (at_builtin; refine wpList_append_any rfl (.tmp 23) (.tmp 24) 56 rfl 3 iA (.int .i64 0) 1 8 Try.underlying56 hiA hzA hsA hbA rfl (by decide) _ n xs rfl HO.out _ 1 x rfl HX.out hx1 hmx1 (by omega) ?_; intro v7 w7 hap; obtain ⟨a7, c7, rfl⟩ := hap.form; have HAP := Lib.hid hap; clear hap))
  (try go_wp2_with fail)
  go_ret
  refine ⟨a7, c7, rfl, ?_, HAP.out.mod, HAP.out.row⟩
  have h2 := HAP.out.own
  rw [show xs.take (i * 1) = xs from List.take_of_length_le (Nat.le_of_eq HXL.out), show xs.drop (i * 1) = [] from List.drop_of_length_le (Nat.le_of_eq HXL.out), List.append_nil]
  exact h2
set_option maxHeartbeats 8000000 in
theorem insI_room (w : World) (a : Option Addr) (n c i : Nat) (xs : List Value) (h1 : ∀ u ∈ xs, u.oneCell' = true) (ho : w.ownsRow 0 3 1 (.slice a n c) n xs) (hn : n ≤ 100000) (gv : Nat) (x : List Value) (hx : Rd w 1 (.slice (some ⟨gv, 0, none⟩) 1 1) 1 x) (hxb : Blk w gv 3 x) (hx1 : ∀ u ∈ x, u.oneCell' = true) (hne : (Value.slice a n c).ownBlock ≠ some gv) (hi : i < n) (hc : n + 1 ≤ c) :
    Calls Try.prog 59 #[.slice a n c, .int .i64 (i : Int), .slice (some ⟨gv, 0, none⟩) 1 1] w fun e w' => InsIP a n c i xs x w e w' := by
  obtain ⟨iA, hiA, hzA, hsA, hbA⟩ := info_parts Nt.infoI
  obtain ⟨g, c2, hab, hlo, hlt⟩ := own_block ho (by omega)
  cases hab
  have hgv : gv ≠ g := fun e => hne (by rw [e]; rfl)
  have hn63 : c ≤ maxLen := by obtain ⟨_, h | ⟨g2, cap, cur, he, _, _, hc1, hc2, _⟩⟩ := ho; exact absurd h.1 (by simp); cases he; exact hc2
  have hc63 : c ≤ 9223372036854775807 := by unfold maxLen at hn63; omega
  have hdr := fun wx => run_dropS (P := Try.prog) wx 56 3 iA 1 Try.underlying56 hiA hsA (some ⟨g, 0, none⟩) n c i (by omega)
  have htk := fun wx => run_takeS (P := Try.prog) wx 56 3 iA Try.underlying56 hiA (some ⟨g, 0, none⟩) n c (n + 1) hc
  have hdr1 := fun wx => run_dropS (P := Try.prog) wx 56 3 iA 1 Try.underlying56 hiA hsA (some ⟨g, 0, none⟩) (n + 1) c (i + 1) (by omega)
  have hdr0 := fun wx => run_dropS (P := Try.prog) wx 56 3 iA 1 Try.underlying56 hiA hsA (some ⟨g, 0, none⟩) (n + 1) c i (by omega)
  have hA1 : dropA (some ⟨g, 0, none⟩) c (i + 1) 1 = some ⟨g, (i + 1) * 1, none⟩ := by unfold dropA; rw [if_neg (by omega)]; show some (Addr.add _ _) = _; rw [Addr.add_lit, Nat.zero_add]
  have hA0 : dropA (some ⟨g, 0, none⟩) c i 1 = some ⟨g, i * 1, none⟩ := by unfold dropA; rw [if_neg (by omega)]; show some (Addr.add _ _) = _; rw [Addr.add_lit, Nat.zero_add]
  rw [hA1, show n + 1 - (i + 1) = n - i by omega] at hdr1
  rw [hA0] at hdr0 hdr
  have z0 : ((1 : Int) == 0) = false := by decide
  have z1 : ((i : Int) == (n : Int)) = false := by rw [beq_eq_false_iff_ne]; omega
  have hw1 : IntKind.i64.wrap ((n : Int) + 1) = (n : Int) + 1 := IntWalk.i64_in _ (by omega)
  have hw2 : IntKind.i64.wrap ((i : Int) + 1) = (i : Int) + 1 := IntWalk.i64_in _ (by omega)
  have hq1 : ((n + 1 : Nat) : Int) = (n : Int) + 1 := by omega
  have hq2 : ((i + 1 : Nat) : Int) = (i : Int) + 1 := by omega
  have z2n : decide ((c : Int) < (n : Int) + 1) = false := by simp; omega
  have hshv : ∀ W, Mod (fun _ => False) w W → W.shape? gv = some (3, x.length) := fun W m => by have := hxb.keep m (fun e => e); unfold World.shape?; unfold Blk at this; rw [this]; simp
  have hxlen : x.length = 1 := by have := hx.1; omega
  obtain ⟨zs, hoz, hzt⟩ := own_widenS ho (n := n + 1) (by omega) hc
  have hcap : ∃ cur, w.heap[g]? = some (.cells cur 3 (0, 0)) ∧ cur.size = c * 1 := by obtain ⟨_, h | ⟨g2, cap, cur, he, _, hb, hc1, hc2, hcs, _⟩⟩ := ho; exact absurd h.1 (by simp); cases he; exact ⟨cur, hb, hcs⟩
  obtain ⟨cur, hcur, hcs⟩ := hcap
  have hov : ∀ lb cb, (callFunc 69 #[.slice (some ⟨gv, 0, none⟩) 1 1, .slice (some ⟨g, (i + 1) * 1, none⟩) lb cb]).run Try.prog w = .ok (.value (.bool false)) w := fun lb cb => by
    rw [run_callFunc_extern Try.func69 (by kernel_rfl) (by kernel_rfl) (by kernel_rfl) (e := Extern.SlicesOverlaps.overlaps #[56, 56] #[4]) (by kernel_rfl),
      Lib.run_overlaps_apart w 56 4 3 Try.underlying56 1 (fun w => by simp [Go.sizeOf, typeInfo, hiA, hsA]) ⟨gv, 0, none⟩ ⟨g, (i + 1) * 1, none⟩ 1 1 lb cb hgv 3 3 x.length (c * 1) (hshv w (Mod.refl _ _)) (by show w.shape? g = _; unfold World.shape?; rw [hcur]; simp [hcs]) (by omega) (hxb.free 0) (by show w.frozen? ⟨gv, x.length, none⟩ = false; exact hxb.free _)]
    rfl
  have hrd := (Rd.ofOwn ho).drop (show i ≤ n by omega)
  have hrdz := (Rd.ofOwn hoz).drop (show i ≤ n + 1 by omega)
  rw [hA0] at hrdz
  have HO := Lib.hid ho
  have HOZ := Lib.hid hoz
  have HZT := Lib.hid hzt
  have HH1 := Lib.hid h1
  have HXB := Lib.hid hxb
  have HXX := Lib.hid hx
  have HRZ := Lib.hid hrdz
  have hzd : (zs.drop (i * 1)).take ((n - i) * 1) = xs.drop (i * 1) := by rw [← hzt, List.drop_take, Nat.sub_mul]
  have hsrc : ∀ W, Mod (fun _ => False) w W → Rd W 1 (.slice (some ⟨g, i * 1, none⟩) (n + 1 - i) (c - i)) (n + 1 - i) (zs.drop (i * 1)) := fun W m => HRZ.out.keep m (fun _ _ e => e)
  have hcpA : ∀ (W : World), Mod (fun _ => False) w W → ∀ ty, (Builtin.copy_ #[56, 56] ty #[.slice (some ⟨g, (i + 1) * 1, none⟩) (n - i) (c - (i + 1)), .slice (some ⟨g, i * 1, none⟩) (n + 1 - i) (c - i)]).run Try.prog W = .ok (goInt (n - i : Nat)) (W.setCells g ((i + 1) * 1) (xs.drop (i * 1))) ∧ (W.setCells g ((i + 1) * 1) (xs.drop (i * 1))).ownsRow 0 3 1 (.slice (some ⟨g, 0, none⟩) (n + 1) c) (n + 1) (zs.take ((i + 1) * 1) ++ xs.drop (i * 1) ++ zs.drop ((i + 1) * 1 + (n - i) * 1)) := fun W m ty => by
    have h := run_copy_take (P := Try.prog) W 56 56 ty 3 iA 1 Try.underlying56 hiA hsA 0 g (n + 1) c zs (Own.keep HOZ.out m (fun _ _ e => e)) (i + 1) ((i + 1) * 1) (n - i) (c - (i + 1)) rfl (some ⟨g, i * 1, none⟩) (n + 1 - i) (c - i) (zs.drop (i * 1)) (hsrc W m) (n - i) (by show min _ _ = _; omega) (by omega) (by rw [hzd]; exact fun u hu => HH1.out u (List.mem_of_mem_drop hu))
    rw [hzd] at h
    exact h
  have hxs : xs.length = n * 1 := ho.1
  have hzl : zs.length = (n + 1) * 1 := hoz.1
  have hsh := put_shift xs x zs i n 1 hi hxs hxlen hzl hzt
  have HSH := Lib.hid hsh
  obtain ⟨w1, hw1e⟩ : ∃ y, w.drew.setCells g ((i + 1) * 1) (xs.drop (i * 1)) = y := ⟨_, rfl⟩
  have hcA := hcpA w.drew (Mod.drew _ _)
  rw [hw1e] at hcA
  have hm1 : Mod (fun k => k = g) w w1 := by rw [← hw1e]; exact (Mod.drew (fun k => k = g) w).trans (setCells_mod _ _ _) (fun _ _ e => e) (fun _ _ e => e)
  have hxw1 : Rd w1 1 (.slice (some ⟨gv, 0, none⟩) 1 1) 1 x := hx.keep hm1 (fun k hk e => by have h9 : gv = k := Option.some.inj hk; omega)
  have hcpB := fun (dc : Nat) ty => run_copy_own (P := Try.prog) w1 56 56 ty 3 iA 1 Try.underlying56 hiA hsA 0 g (n + 1) c _ (hcA 3).2 i (i * 1) (n + 1 - i) dc rfl (some ⟨gv, 0, none⟩) 1 1 x hxw1 hx1 1 (by show min _ _ = _; omega) (by omega)
  have hxt : x.take (1 * 1) = x := List.take_of_length_le (by omega)
  simp only [hxt, Nat.one_mul] at hcpB
  have HCA := Lib.hid (fun ty => (hcA ty).1)
  have HCB := Lib.hid hcpB
  have HM1 := Lib.hid hm1
  clear ho hoz hzt h1 hxb hx hrd hrdz hsrc hzd hcpA hcA hcpB hsh hw1e hm1 hxw1 hcur hcs hshv HRZ hxs hzl hA1 hA0 hxt
  rw [hq1] at htk
  rw [hq2] at hdr1
  have hcb1 := HCB.out
  clear hq1 hq2
  simp only [Nat.mul_one] at *
  go_enter Try.func59, Try.ntmps59
  go_wp2_with (simp only [hov])
  go_region_law (refine step_copy_own rfl (.tmp 73) (.tmp 76) 56 56 rfl (.slice (some ⟨g, i + 1, none⟩) (n - i) (c - (i + 1))) (.slice (some ⟨g, i, none⟩) (n + 1 - i) (c - i)) (by simp [Act.eval, Act.put]) (by simp [Act.eval, Act.put]) _ _ HCA.out ?_)
  all_goals
    have hcb2 := fun dc ty => (hcb1 dc ty).1
    clear hcb1
    go_wp2_with fail
    (try go_wp2_with fail)
    go_ret
    refine ⟨some ⟨g, 0, none⟩, c, rfl, ?_, ?_, fun k hk => .inl hk⟩
    · have h2 := (HCB.out 0 3).2
      rw [HSH.out] at h2
      simpa only [Nat.mul_one] using h2
    · exact (HM1.out.trans (setCells_mod _ _ _) (H := fun k => k = g) (fun _ _ e => e) (fun _ _ e => e)).mono (fun k _ e => by rw [e]; rfl)
set_option maxHeartbeats 8000000 in
theorem insI_grow (w : World) (a : Option Addr) (n c i : Nat) (xs : List Value) (h1 : ∀ u ∈ xs, u.oneCell' = true) (ho : w.ownsRow 0 3 1 (.slice a n c) n xs) (hn : n ≤ 100000) (gv : Nat) (x : List Value) (hx : Rd w 1 (.slice (some ⟨gv, 0, none⟩) 1 1) 1 x) (hxb : Blk w gv 3 x) (hx1 : ∀ u ∈ x, u.oneCell' = true) (hne : (Value.slice a n c).ownBlock ≠ some gv) (hi : i < n) (hc : ¬ n + 1 ≤ c) :
    Calls Try.prog 59 #[.slice a n c, .int .i64 (i : Int), .slice (some ⟨gv, 0, none⟩) 1 1] w fun e w' => InsIP a n c i xs x w e w' := by
  obtain ⟨iA, hiA, hzA, hsA, hbA⟩ := info_parts Nt.infoI
  obtain ⟨g, c2, hab, hlo, hlt⟩ := own_block ho (by omega)
  cases hab
  obtain rfl : n = c := by obtain ⟨_, h | ⟨g2, cap, cur, he, _, _, hc1, _⟩⟩ := ho; exact absurd h.1 (by simp); cases he; omega
  have hgv : gv < w.heap.size := hxb.lt
  have hdr := fun wx => run_dropS (P := Try.prog) wx 56 3 iA 1 Try.underlying56 hiA hsA (some ⟨g, 0, none⟩) n n i (by omega)
  have htk := fun wx => run_takeS (P := Try.prog) wx 56 3 iA Try.underlying56 hiA (some ⟨g, 0, none⟩) n n i (by omega)
  have hA0 : dropA (some ⟨g, 0, none⟩) n i 1 = some ⟨g, i * 1, none⟩ := by unfold dropA; rw [if_neg (by omega)]; show some (Addr.add _ _) = _; rw [Addr.add_lit, Nat.zero_add]
  rw [hA0] at hdr
  have z0 : ((1 : Int) == 0) = false := by decide
  have z1 : ((i : Int) == (n : Int)) = false := by rw [beq_eq_false_iff_ne]; omega
  have hw1 : IntKind.i64.wrap ((n : Int) + 1) = (n : Int) + 1 := IntWalk.i64_in _ (by omega)
  have hw2 : IntKind.i64.wrap ((i : Int) + 1) = (i : Int) + 1 := IntWalk.i64_in _ (by omega)
  have hq1 : ((n + 1 : Nat) : Int) = (n : Int) + 1 := by omega
  have hq2 : ((i + 1 : Nat) : Int) = (i : Int) + 1 := by omega
  have hw4 : IntKind.i64.wrap ((n : Int) + 1 - (i : Int)) = ((n + 1 - i : Nat) : Int) := by rw [IntWalk.i64_in _ (by omega)]; omega
  have z2n : decide ((n : Int) < (n : Int) + 1) = true := by simp; omega
  have hxs : xs.length = n * 1 := ho.1
  have hxlen : x.length = 1 := by have := hx.1; omega
  have hilt : i * 1 ≤ n * 1 := Nat.mul_le_mul_right _ (by omega)
  have hold : (Builtin.firstCells iA.size i (.slice (some ⟨g, 0, none⟩) i n)).run Try.prog w.drew = .ok (xs.take (i * 1)).toArray w.drew := by
    rw [hsA]
    have hr := Rd.ofOwn (Own.keep ho (Mod.drew (fun _ => False) w) (fun _ _ e => e))
    obtain ⟨_, a9, c9, he9, _, _, _, hcell⟩ := hr
    cases he9
    exact run_firstCells_some w.drew 1 i ⟨g, 0, none⟩ i n (xs.take (i * 1)) (by rw [List.length_take]; omega) (fun j v hj => (hcell _ rfl).2 j v (by rw [List.getElem?_take] at hj; split at hj; exact hj; cases hj))
  have hrz : ∀ ty, (Builtin.append_ #[56, 3] ty #[.slice (some ⟨g, 0, none⟩) i n, .int .i64 ((n + 1 - i : Nat) : Int)]).run Try.prog w = _ := fun ty => Lib.run_append_grow_zeros w 56 3 ty 3 iA (.int .i64 0) .i64 .i64 Try.underlying56 Try.underlying3 hiA hzA (some ⟨g, 0, none⟩) i n (xs.take (i * 1)) hold (n + 1 - i) (by omega) (by omega) (by omega) (by omega) (by rw [hbA]; omega) (by rw [hbA, show i + (n + 1 - i) = n + 1 by omega]; exact growslice_fits (by omega) (by omega))
  have hin : i + (n + 1 - i) = n + 1 := by omega
  rw [hin] at hrz
  obtain ⟨G, hG⟩ : ∃ G, grownCap w (n + 1) n 3 = G := ⟨_, rfl⟩
  have hGn : n + 1 ≤ G := by rw [← hG]; exact grownCap_ge w _ _ _
  have hGm : G ≤ maxLen := by rw [← hG]; exact grownCap_le_maxLen w (n + 1) n 3 (by unfold maxLen; omega)
  rw [hG] at hrz
  obtain ⟨ROW, hROW⟩ : ∃ ROW : Array Value, (xs.take (i * 1)).toArray ++ Builtin.zeroCells (Value.cells (.int .i64 0)) (n + 1 - i) ++ Builtin.zeroCells (Value.cells (.int .i64 0)) (G - (n + 1)) = ROW := ⟨_, rfl⟩
  rw [hROW] at hrz
  have hRl : ROW.size = G * 1 := by rw [← hROW]; simp [Builtin.zeroCells, Value.cells]; omega
  have hRt : ROW.toList.take (i * 1) = xs.take (i * 1) := by rw [← hROW, Array.toList_append, Array.toList_append, List.append_assoc, List.take_left' (by simp; omega)]
  obtain ⟨g2, hg2⟩ : ∃ y, w.heap.size = y := ⟨_, rfl⟩
  obtain ⟨W1, hW1⟩ : ∃ W1, w.drew.alloc (.cells ROW 3) = W1 := ⟨_, rfl⟩
  rw [hW1, hg2] at hrz
  have hm1 : Mod (fun _ => False) w W1 := by rw [← hW1]; exact (Mod.drew (fun _ => False) w).trans (Mod.alloc _ _ _) (fun _ _ e => e) (fun _ _ e => e)
  have ho1 : W1.ownsRow 0 3 1 (.slice (some ⟨g2, 0, none⟩) (n + 1) G) (n + 1) (ROW.toList.take ((n + 1) * 1)) := by
    have hle : (n + 1) * 1 ≤ G * 1 := Nat.mul_le_mul_right _ hGn
    refine ⟨by rw [List.length_take, Array.length_toList]; omega, .inr ⟨g2, G, ROW, rfl, Nat.zero_le _, ?_, hGn, hGm, hRl, rfl⟩⟩
    rw [← hW1, ← hg2]
    have h9 := Blk.new w.drew 3 ROW.toList
    unfold Blk at h9
    simpa using h9
  have hzl : (ROW.toList.take ((n + 1) * 1)).length = (n + 1) * 1 := ho1.1
  have hzt : (ROW.toList.take ((n + 1) * 1)).take (i * 1) = xs.take (i * 1) := by rw [List.take_take, Nat.min_eq_left (Nat.mul_le_mul_right _ (by omega)), hRt]
  obtain ⟨zs, hzs⟩ : ∃ zs, ROW.toList.take ((n + 1) * 1) = zs := ⟨_, rfl⟩
  rw [hzs] at ho1 hzl hzt
  have hgr := put_grow xs x zs i n 1 hi hxs hxlen hzl hzt
  have HGR := Lib.hid hgr
  have htkG := fun wx => run_dropS (P := Try.prog) wx 56 3 iA 1 Try.underlying56 hiA hsA (some ⟨g2, 0, none⟩) (n + 1) G i (by omega)
  have htkH := fun wx => run_dropS (P := Try.prog) wx 56 3 iA 1 Try.underlying56 hiA hsA (some ⟨g2, 0, none⟩) (n + 1) G (i + 1) (by omega)
  have hA2 : dropA (some ⟨g2, 0, none⟩) G i 1 = some ⟨g2, i * 1, none⟩ := by unfold dropA; rw [if_neg (by omega)]; show some (Addr.add _ _) = _; rw [Addr.add_lit, Nat.zero_add]
  have hA3 : dropA (some ⟨g2, 0, none⟩) G (i + 1) 1 = some ⟨g2, (i + 1) * 1, none⟩ := by unfold dropA; rw [if_neg (by omega)]; show some (Addr.add _ _) = _; rw [Addr.add_lit, Nat.zero_add]
  rw [hA2] at htkG
  rw [hA3, show n + 1 - (i + 1) = n - i by omega] at htkH
  have hcA : ∀ ty, _ := fun ty => run_copy_own (P := Try.prog) W1 56 56 ty 3 iA 1 Try.underlying56 hiA hsA 0 g2 (n + 1) G zs ho1 i (i * 1) (n + 1 - i) (G - i) rfl (some ⟨gv, 0, none⟩) 1 1 x (hx.keep hm1 (fun _ _ e => e)) hx1 1 (by show min _ _ = _; omega) (by omega)
  have hxt : x.take (1 * 1) = x := List.take_of_length_le (by omega)
  simp only [hxt, Nat.one_mul] at hcA
  obtain ⟨W2, hW2⟩ : ∃ W2, W1.setCells g2 (i * 1) x = W2 := ⟨_, rfl⟩
  rw [hW2] at hcA
  have hm2 : Mod (fun k => k = g2) W1 W2 := by rw [← hW2]; exact setCells_mod _ _ _
  have hm12 : Mod (fun _ => False) w W2 := hm1.old hm2 (fun k e => by omega)
  have hrs : Rd w 1 (.slice (some ⟨g, i * 1, none⟩) (n - i) (n - i)) (n - i) (xs.drop (i * 1)) := by have := (Rd.ofOwn ho).drop (show i ≤ n by omega); rwa [hA0] at this
  have hcB : ∀ (W : World), Mod (fun _ => False) W2 W → ∀ ty, _ := fun W m ty => run_copy_own (P := Try.prog) W 56 56 ty 3 iA 1 Try.underlying56 hiA hsA 0 g2 (n + 1) G _ (Own.keep (hcA 3).2 m (fun _ _ e => e)) (i + 1) ((i + 1) * 1) (n - i) (G - (i + 1)) rfl (some ⟨g, i * 1, none⟩) (n - i) (n - i) (xs.drop (i * 1)) (hrs.keep (hm12.of2 m) (fun _ _ e => e)) (fun u hu => h1 u (List.mem_of_mem_drop hu)) (n - i) (Nat.min_self _) (by omega)
  have hdt : (xs.drop (i * 1)).take ((n - i) * 1) = xs.drop (i * 1) := List.take_of_length_le (by rw [List.length_drop, Nat.sub_mul]; omega)
  simp only [hdt] at hcB
  have HRZ := Lib.hid hrz
  have HCA := Lib.hid (fun ty => (hcA ty).1)
  have HCB := Lib.hid hcB
  have HM2 := Lib.hid hm12
  have hci : ¬ (n = i) := by omega
  rw [hq2] at htkH
  have hca1 := HCA.out
  clear hq1 hq2
  clear ho hx hxb h1 hold hrz hROW hRl hRt hW1 hm1 ho1 hzl hzt hzs hgr hA0 hA2 hA3 hcA hxt hW2 hm2 hm12 hrs hcB hdt hxs hilt hne hin hG
  simp only [Nat.mul_one] at *
  go_enter Try.func59, Try.ntmps59
  go_wp2_with (first
      | (at_builtin; refine Lib.wpList_append_run _ rfl _ _ _ _ rfl _ _ rfl rfl _ _ (HRZ.out _) ?_))
  go_region_law (refine step_copy_own rfl (.tmp 50) (.tmp 53) 56 56 rfl (.slice (some ⟨g2, i + 1, none⟩) (n - i) (G - (i + 1))) (.slice (some ⟨g, i, none⟩) (n - i) (n - i)) (by simp [Act.eval, Act.put]) (by simp [Act.eval, Act.put]) _ _ (fun ty => (HCB.out _ (Mod.drew _ _) ty).1) ?_)
  all_goals
    (try go_wp2_with fail)
    go_ret
    have h2 := (HCB.out _ (Mod.drew (fun _ => False) _) 3).2
    rw [HGR.out] at h2
    refine ⟨some ⟨g2, 0, none⟩, G, rfl, by simpa only [Nat.mul_one] using h2, ?_, fun k hk => .inr (by have h9 : g2 = k := Option.some.inj hk; omega)⟩
    exact ((HM2.out.of2 (Mod.drew (fun _ => False) _)).old (setCells_mod _ _ _) (fun k e => by omega)).mono (fun _ _ e => e.elim)
set_option maxHeartbeats 8000000 in
theorem insI_any (w : World) (a : Option Addr) (n c i : Nat) (xs : List Value) (h1 : ∀ u ∈ xs, u.oneCell' = true) (ho : w.ownsRow 0 3 1 (.slice a n c) n xs) (hn : n ≤ 100000) (gv : Nat) (x : List Value) (hx : Rd w 1 (.slice (some ⟨gv, 0, none⟩) 1 1) 1 x) (hxb : Blk w gv 3 x) (hx1 : ∀ u ∈ x, u.oneCell' = true) (hne : (Value.slice a n c).ownBlock ≠ some gv) (hi : i ≤ n) :
    Calls Try.prog 59 #[.slice a n c, .int .i64 (i : Int), .slice (some ⟨gv, 0, none⟩) 1 1] w fun e w' => InsIP a n c i xs x w e w' := by
  by_cases h2 : i = n
  · exact insI_end w a n c i xs h1 ho hn gv x hx hxb hx1 hne h2
  · by_cases h3 : n + 1 ≤ c
    · exact insI_room w a n c i xs h1 ho hn gv x hx hxb hx1 hne (by omega) h3
    · exact insI_grow w a n c i xs h1 ho hn gv x hx hxb hx1 hne (by omega) h3
end Go.Proofs.Ytnklgeekjkchbaa
