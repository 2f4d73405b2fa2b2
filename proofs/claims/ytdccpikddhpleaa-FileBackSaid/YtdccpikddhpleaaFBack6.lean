/- FileBack walked. -/
import Derived.Test.YtdccpikddhpleaaAwake6
import Derived.Test.YtdccpikddhpleaaSame2
import Derived.Test.YtdccpikddhpleaaTown3
import Derived.Test.YtdccpikddhpleaaOpens
import Derived.Test.YtdccpikddhpleaaRound
import Derived.Test.YtdccpikddhpleaaTurn6
import Derived.Laws.OwnMore
import Derived.Deep.DeepCutAuto
import Derived.Deep.CutBlock
namespace Mile
open Go Go.RowKit
theorem opens_array3 {α : Type} {P : Program} {t e : TypeId} {E : Enc α} (ht : P.underlying t = some (.array 3 e)) (hc : P.cellsOf t = E.cells + (E.cells + E.cells)) (hce : P.cellsOf e = E.cells) (hE : Opens P e E) : Opens P t (encPair E (encPair E E)) := by
  intro H enc w base spare held fuel cs x h
  obtain ⟨xs, m, _, _, hl, hxl, hf⟩ := DataW.trod_array ht h
  have h0 := hf 0 (by omega)
  have h1 := hf 1 (by omega)
  have h2 := hf 2 (by omega)
  rw [List.getElem?_eq_getElem (show 0 < xs.length by omega)] at h0
  rw [List.getElem?_eq_getElem (show 1 < xs.length by omega)] at h1
  rw [List.getElem?_eq_getElem (show 2 < xs.length by omega)] at h2
  rw [hce] at h0 h1 h2
  obtain ⟨a, ha, hoka⟩ := hE H enc w base spare held m _ _ h0
  obtain ⟨b, hb, hokb⟩ := hE H enc w base spare held m _ _ h1
  obtain ⟨c, hc', hokc⟩ := hE H enc w base spare held m _ _ h2
  refine ⟨(a, b, c), ?_, hoka, hokb, hokc⟩
  show cs = E.img a ++ (E.img b ++ E.img c)
  rw [← ha, ← hb, ← hc']
  simp only [Nat.zero_mul, List.drop_zero, Nat.one_mul]
  rw [List.take_of_length_le (show (cs.drop (2 * E.cells)).length ≤ E.cells by rw [List.length_drop]; omega), show 2 * E.cells = E.cells + E.cells by omega, ← List.drop_drop, List.take_append_drop, List.take_append_drop]

end Mile
namespace Go.Proofs.Ytdccpikddhpleaa
open Go.RowKit Mile
set_option maxRecDepth 100000
theorem opens_il6b : Opens Try.prog 44 (encSlice (encInt .i64)) := opens_slice Try.underlying44 (by kernel_rfl) (opens_int Try.underlying3) (by decide)
theorem opens_three : Opens Try.prog 45 (encPair (encInt .i64) (encPair (encInt .i64) (encInt .i64))) := opens_array3 Try.underlying45 (by kernel_rfl) (by kernel_rfl) (opens_int Try.underlying3)
theorem own_some3' {w : World} {base : Nat} {e : TypeId} {size : Nat} {a : Option Addr} {n c : Nat} {xs : List Value} (h : w.ownsRow base e size (.slice a n c) n xs) (hn : 0 < n) : ∃ g, a = some ⟨g, 0, none⟩ := by
  rcases h.2 with ⟨h', _⟩ | ⟨g, cap, cur, h', _⟩
  · simp only [Value.slice.injEq] at h'; omega
  · cases h'; exact ⟨g, rfl⟩

theorem byte_wf {x : Int} (h : (Lit.int .u8 x).wf = true) : 0 ≤ x ∧ x < 256 := by
  have : 0 ≤ x ∧ x ≤ 255 := by simpa [Lit.wf, IntKind.min, IntKind.max, IntKind.signed, IntKind.bits] using h
  omega

theorem town_gv6b (w : World) (a0 : Option Addr) (m c0 : Nat) (l : List Int) (hm : l.length = m) (hr : Rd w 1 (.slice a0 m c0) m (l.map (Value.int .i64))) :
    Calls Try.prog 14 #[.slice a0 m c0] w fun e w' => ∃ a1 n1 d1 a2 n2 d2 a3 n3 d3, e = .returned (.agg #[.slice a1 n1 d1, .slice a2 n2 d2, .slice a3 n3 d3]) ∧
      GV w' a1 n1 d1 a2 n2 d2 a3 n3 d3 (townG l) ∧ Mod (fun _ => False) w w' :=
  (town_any w a0 m c0 l hm hr).mono fun _ _ ⟨a1, n1, d1, a2, n2, d2, a3, n3, d3, he, h1, h2, h3, ht, hM⟩ => by
    subst h1 h2 h3
    exact ⟨a1, _, d1, a2, _, d2, a3, _, d3, he, ⟨rfl, rfl, rfl, Rd.ofOwn ht.o1, Rd.ofOwn ht.o2, Rd.ofOwn ht.o3⟩, hM⟩

set_option maxHeartbeats 32000000 in
theorem fback_all6 (w : World) (a0 : Option Addr) (m c0 : Nat) (l : List Int) (hm : l.length = m) (hr : Rd w 1 (.slice a0 m c0) m (l.map (Value.int .i64))) (cut more : Int) (hmo : 0 ≤ more ∧ more < 256) (x y z : Int) :
    Calls Try.prog 4 #[.slice a0 m c0, .int .i64 cut, .int .u8 more, .agg #[.int .i64 x, .int .i64 y, .int .i64 z]] w fun e w' => e = .returned (.bool true) ∧ Mod (fun _ => False) w w' := by
  obtain ⟨i0, hi8, hz0, hs8, hz2⟩ := info_parts Chk.info5
  by_cases hlen : m ≤ 100
  case neg =>
    have HS : Hid (Ev (Mod (fun _ => False) w) w) := Lib.hid (Ev.mod w)
    have z0 : decide (100 < (m : Int)) = true := by simp; omega
    have z1 : decide (100 < m) = true := by simp; omega
    go_enter Try.func4, Try.ntmps4
    go_wp2_with fail
    refine (awake6_any _).mono ?_
    rintro e wq80 ⟨rfl, hm⟩
    replace HS := Lib.hid (HS.out.step ((Mod.alloc (fun _ => False) _ _).of2 hm))
    clear hm
    go_wp2_with fail
    go_ret
    exact ⟨rfl, HS.out.now⟩
  have HS : Hid (Ev (Mod (fun _ => False) w) w) := Lib.hid (Ev.mod w)
  replace HS := Lib.hid ((Ev.rd hr).and HS.out)
  have z0 : decide (100 < (m : Int)) = false := by simp; omega
  have z1 : decide (100 < m) = false := by simp; omega
  have HM := Lib.hid hm
  have HMO := Lib.hid hmo
  clear hm hr hmo
  go_enter Try.func4, Try.ntmps4
  go_upto_region 1 with fail
  obtain ⟨bt, hbt⟩ : ∃ b, w.heap.size = b := ⟨_, rfl⟩
  obtain ⟨wq1, hwq1⟩ : ∃ W, World.alloc w (.cells #[.int .i64 x, .int .i64 y, .int .i64 z] 45) = W := ⟨_, rfl⟩
  have hBbt : Blk wq1 bt 45 [.int .i64 x, .int .i64 y, .int .i64 z] := by rw [← hwq1, ← hbt]; exact Blk.new _ 45 [.int .i64 x, .int .i64 y, .int .i64 z]
  have hzbt : wq1.heap.size = bt + 1 := by rw [← hwq1, ← hbt]; exact heap_size_alloc _ _
  replace HS := Lib.hid (HS.out.step (w' := wq1) (by rw [← hwq1]; exact Mod.alloc _ _ _))
  replace HS := Lib.hid ((Ev.blk hBbt).and HS.out)
  try rw [hwq1]
  try rw [hbt]
  clear hzbt hBbt hbt hwq1
  go_wp2_with fail
  refine (town_gv6b _ a0 m c0 l HM.out ((HS.out.now).2.1)).mono ?_
  rintro e wq90 ⟨a1, n1, d1, a2, n2, d2, a3, n3, d3, rfl, hg, hmm⟩
  replace HS := Lib.hid (HS.out.step hmm)
  replace HS := Lib.hid ((Ev.gv hg).and HS.out)
  clear hmm hg z0 z1
  have hmay := Lib.hid (town_may l)
  have hfew := Lib.hid (town_few l)
  obtain ⟨G, hG⟩ : ∃ G, townG l = G := ⟨_, rfl⟩
  rw [hG] at hmay hfew HS
  clear hG
  have hn := Lib.hid ((HS.out.now).1.n)
  have he := Lib.hid ((HS.out.now).1.e)
  have hb := Lib.hid ((HS.out.now).1.b)
  have h1n : n1 ≤ 16 := by have := hfew.out.1.2; have := hn.out; omega
  have h2n : n2 ≤ 67 := by have := hfew.out.2.1.2; have := he.out; omega
  have h3n : n3 ≤ 469 := by have := hfew.out.2.2; have := hb.out; omega
  go_upto_region 4 with fail
  obtain ⟨bg, hbg⟩ : ∃ b, wq90.heap.size = b := ⟨_, rfl⟩
  obtain ⟨wq2, hwq2⟩ : ∃ W, World.alloc wq90 (.cells #[.slice a1 n1 d1, .slice a2 n2 d2, .slice a3 n3 d3] 26) = W := ⟨_, rfl⟩
  have hBbg : Blk wq2 bg 26 [.slice a1 n1 d1, .slice a2 n2 d2, .slice a3 n3 d3] := by rw [← hwq2, ← hbg]; exact Blk.new _ 26 [.slice a1 n1 d1, .slice a2 n2 d2, .slice a3 n3 d3]
  have hzbg : wq2.heap.size = bg + 1 := by rw [← hwq2, ← hbg]; exact heap_size_alloc _ _
  replace HS := Lib.hid (HS.out.step (w' := wq2) (by rw [← hwq2]; exact Mod.alloc _ _ _))
  replace HS := Lib.hid ((Ev.blk hBbg).and HS.out)
  try rw [hwq2]
  try rw [hbg]
  clear hzbg hBbg hbg hwq2
  have hbbg := (HS.out.now).1
  have qbg_0 := hbbg.cell 0 rfl
  have qbg_1 := hbbg.cell 1 rfl
  have qbg_2 := hbbg.cell 2 rfl
  have lbg := hbbg.lt
  clear hbbg
  go_wp2_with fail
  refine (encode_any G _ a1 n1 d1 a2 n2 d2 a3 n3 d3 ((HS.out.now).2.1)).mono ?_
  rintro e wq92 hp
  rcases hp with ⟨_, x1, y1, rfl, ho, hmm⟩ | ⟨hno, _⟩
  case inr => exact absurd hmay.out hno
  obtain ⟨L, hL⟩ : ∃ k, (fileG G).length = k := ⟨_, rfl⟩
  rw [hL] at ho ⊢
  have HL := Lib.hid hL
  clear hL
  replace HS := Lib.hid (HS.out.step hmm)
  replace HS := Lib.hid ((Ev.own ho).and HS.out)
  clear ho hmm
  have HLL : Hid (L = 14 + 4 * n1 + 6 * n2 + 4 * n3) := Lib.hid (by rw [← HL.out, fileG_len, hn.out, he.out, hb.out])
  have hL14 : 14 ≤ L := by have := HLL.out; omega
  have hLb : L ≤ 2356 := by have := HLL.out; omega
  clear qbg_0 qbg_1 qbg_2 lbg
  have hbbg := (HS.out.now).2.1
  have qbg_0 := hbbg.cell 0 rfl
  have qbg_1 := hbbg.cell 1 rfl
  have qbg_2 := hbbg.cell 2 rfl
  have lbg := hbbg.lt
  clear hbbg
  go_wp2_with fail
  refine (decode_any _ x1 L y1 (fileG G) HL.out (Rd.ofOwn ((HS.out.now).1)) (fileG_range _) (by omega)).mono ?_
  rintro e wq93 hp
  rcases hp with ⟨_, b1, m1, v1, b2, m2, v2, b3, m3, v3, rfl, hg, hmm⟩ | ⟨hno, _⟩
  case inr => exact absurd ⟨by rw [parse_file G hmay.out]; exact hmay.out, by rw [parse_file G hmay.out]⟩ hno
  rw [parse_file G hmay.out] at hg
  obtain rfl : m1 = n1 := by rw [← hg.n]; exact hn.out
  obtain rfl : m2 = n2 := by rw [← hg.e]; exact he.out
  obtain rfl : m3 = n3 := by rw [← hg.b]; exact hb.out
  replace HS := Lib.hid (HS.out.step hmm)
  replace HS := Lib.hid ((Ev.gv hg).and HS.out)
  clear hmm hg
  go_upto_region 6 with fail
  obtain ⟨bx, hbx⟩ : ∃ b, wq93.heap.size = b := ⟨_, rfl⟩
  obtain ⟨wq3, hwq3⟩ : ∃ W, World.alloc wq93 (.cells #[.slice b1 m1 v1, .slice b2 m2 v2, .slice b3 m3 v3] 26) = W := ⟨_, rfl⟩
  have hBbx : Blk wq3 bx 26 [.slice b1 m1 v1, .slice b2 m2 v2, .slice b3 m3 v3] := by rw [← hwq3, ← hbx]; exact Blk.new _ 26 [.slice b1 m1 v1, .slice b2 m2 v2, .slice b3 m3 v3]
  have hzbx : wq3.heap.size = bx + 1 := by rw [← hwq3, ← hbx]; exact heap_size_alloc _ _
  replace HS := Lib.hid (HS.out.step (w' := wq3) (by rw [← hwq3]; exact Mod.alloc _ _ _))
  replace HS := Lib.hid ((Ev.blk hBbx).and HS.out)
  try rw [hwq3]
  try rw [hbx]
  clear hzbx hBbx hbx hwq3
  clear qbg_0 qbg_1 qbg_2 lbg
  have hbbg := (HS.out.now).2.2.2.1
  have qbg_0 := hbbg.cell 0 rfl
  have qbg_1 := hbbg.cell 1 rfl
  have qbg_2 := hbbg.cell 2 rfl
  have lbg := hbbg.lt
  clear hbbg
  have hbbx := (HS.out.now).1
  have qbx_0 := hbbx.cell 0 rfl
  have qbx_1 := hbbx.cell 1 rfl
  have qbx_2 := hbbx.cell 2 rfl
  have lbx := hbbx.lt
  clear hbbx
  have zL : ((L : Int) == 0) = false := by simp; omega
  go_wp2_with fail
  refine (same2_any G G true (Lib.hid ⟨fun _ => rfl, fun _ => rfl⟩) _ b1 m1 v1 b2 m2 v2 b3 m3 v3 ((HS.out.now).2.1) a1 m1 d1 a2 m2 d2 a3 m3 d3 ((HS.out.now).2.2.2.2.1) (by omega) (by omega) (by omega)).mono ?_
  rintro e wq94 ⟨rfl, hmm⟩
  replace HS := Lib.hid (HS.out.step hmm)
  clear hmm zL
  clear qbg_0 qbg_1 qbg_2 lbg qbx_0 qbx_1 qbx_2 lbx
  obtain ⟨k, hk⟩ := Int.eq_ofNat_of_zero_le (Int.emod_nonneg cut (show (L : Int) ≠ 0 by omega))
  have hkL : k < L := by have := Int.emod_lt_of_pos cut (show 0 < (L : Int) by omega); omega
  have HK := Lib.hid hk
  clear hk
  have hky : k ≤ y1 := by obtain ⟨_, a', c', he', h1, _⟩ := Rd.ofOwn ((HS.out.now).2.2.1); cases he'; omega
  have hts := fun wx => run_takeS (P := Try.prog) wx 27 5 i0 Try.underlying27 hi8 x1 L y1 k hky
  go_wp2_with fail
  refine (round_any _ _ _ (by omega) (by omega)).mono ?_
  rintro e w' ⟨rfl, rfl⟩
  rw [HK.out]
  go_wp2_with fail
  have hrt := (Rd.ofOwn ((HS.out.now).2.2.1)).take (n := k) (by omega)
  rw [Nat.mul_one, ← List.map_take] at hrt
  refine (decode_any _ x1 k y1 ((fileG G).take k) (by rw [List.length_take, HL.out]; omega) hrt (fun x hx => fileG_range G x (List.mem_of_mem_take hx)) (by omega)).mono ?_
  rintro e wq95 hp
  rcases hp with ⟨hno, _⟩ | ⟨_, rfl, hmm⟩
  case inl => exact absurd hno.2 (file_cut hmay.out hno.1 (by rw [HL.out]; exact hkL))
  replace HS := Lib.hid (HS.out.step hmm)
  clear hmm hrt hts
  go_upto_region 9 with fail
  obtain ⟨bc, hbc⟩ : ∃ b, wq95.heap.size = b := ⟨_, rfl⟩
  obtain ⟨wq4, hwq4⟩ : ∃ W, World.alloc wq95 (.cells #[.slice none 0 0, .slice none 0 0, .slice none 0 0] 26) = W := ⟨_, rfl⟩
  have hBbc : Blk wq4 bc 26 [.slice none 0 0, .slice none 0 0, .slice none 0 0] := by rw [← hwq4, ← hbc]; exact Blk.new _ 26 [.slice none 0 0, .slice none 0 0, .slice none 0 0]
  have hzbc : wq4.heap.size = bc + 1 := by rw [← hwq4, ← hbc]; exact heap_size_alloc _ _
  replace HS := Lib.hid (HS.out.step (w' := wq4) (by rw [← hwq4]; exact Mod.alloc _ _ _))
  replace HS := Lib.hid ((Ev.blk hBbc).and HS.out)
  try rw [hwq4]
  try rw [hbc]
  clear hzbc hBbc hbc hwq4
  have h1c : ∀ u ∈ (fileG G).map (Value.int .u8), u.oneCell' = true := by intro u hu; simp at hu; obtain ⟨x, _, rfl⟩ := hu; rfl
  have h1d : ∀ u ∈ [Value.int .u8 more], u.oneCell' = true := by simp [Value.oneCell']
  have hap1 : 0 + L ≤ maxLen := by unfold maxLen; omega
  have hap2 : (0 + L) * 1 ≤ 140737488355328 := by omega
  have hap3 : L + 1 ≤ maxLen := by unfold maxLen; omega
  have hap4 : (L + 1) * 1 ≤ 140737488355328 := by omega
  have hr3 := Rd.ofOwn ((HS.out.now).2.2.2.1)
  go_wp2_with (first | (at_builtin; refine wpList_append_any rfl (.tmp 67) (.tmp 68) 27 rfl 5 i0 (.int .u8 0) 1 1 Try.underlying27 hi8 hz0 hs8 hz2 rfl (by decide) _ 0 [] rfl (own_empty _ _ _ _ (by simp)) _ L ((fileG G).map (Value.int .u8)) rfl (hr3.alloc _) h1c hap1 hap2 ?_; intro v4 w4 hap; obtain ⟨a4, c4, rfl⟩ := hap.form; have ho4 := hap.own; have hl4 := hap.low (B := wq4.heap.size) (by simp) (low_lit (Nat.le_refl _)); have hm4 := hap.modOld (Mod.alloc (fun _ => False) wq4 _) (low_lit (Nat.le_refl _)); simp only [Nat.zero_add, List.nil_append] at ho4 hl4; clear hap) | (at_builtin; refine wpList_append_any rfl (.tmp 69) (.tmp 71) 27 rfl 5 i0 (.int .u8 0) 1 1 Try.underlying27 hi8 hz0 hs8 hz2 rfl (by decide) _ L _ rfl (World.ownsRow.alloc ho4 _) _ 1 [.int .u8 more] rfl (Rd.one w4 _ _) h1d hap3 hap4 ?_; intro v5 w5 hap; obtain ⟨a5, c5, rfl⟩ := hap.form; have ho5 := hap.own; have hm5 := hap.modOld (hm4.thenAlloc _) hl4; clear hap ho4 hm4 hl4))
  rw [show (fileG G).map (Value.int .u8) ++ [Value.int .u8 more] = (fileG G ++ [more]).map (Value.int .u8) by simp] at ho5
  have HO5 := Lib.hid ho5
  clear ho5 hr3
  replace HS := Lib.hid (HS.out.step hm5)
  clear hm5
  refine (decode_any w5 a5 (L + 1) c5 (fileG G ++ [more]) (by rw [List.length_append, HL.out]; rfl) (Rd.ofOwn HO5.out) (fun x hx => by rcases List.mem_append.1 hx with h | h; exact fileG_range G x h; rw [List.mem_singleton.1 h]; exact HMO.out) (by omega)).mono ?_
  rintro e wq96 hp
  rcases hp with ⟨hno, _⟩ | ⟨_, rfl, hmm⟩
  case inl => exact absurd hno.2 (file_more hmay.out hno.1 more)
  replace HS := Lib.hid (HS.out.step hmm)
  clear hmm HO5
  go_upto_region 10 with fail
  obtain ⟨bm, hbm⟩ : ∃ b, wq96.heap.size = b := ⟨_, rfl⟩
  obtain ⟨wq5, hwq5⟩ : ∃ W, World.alloc wq96 (.cells #[.slice none 0 0, .slice none 0 0, .slice none 0 0] 26) = W := ⟨_, rfl⟩
  have hBbm : Blk wq5 bm 26 [.slice none 0 0, .slice none 0 0, .slice none 0 0] := by rw [← hwq5, ← hbm]; exact Blk.new _ 26 [.slice none 0 0, .slice none 0 0, .slice none 0 0]
  have hzbm : wq5.heap.size = bm + 1 := by rw [← hwq5, ← hbm]; exact heap_size_alloc _ _
  replace HS := Lib.hid (HS.out.step (w' := wq5) (by rw [← hwq5]; exact Mod.alloc _ _ _))
  replace HS := Lib.hid ((Ev.blk hBbm).and HS.out)
  try rw [hwq5]
  try rw [hbm]
  clear hzbm hBbm hbm hwq5
  have hr3 := Rd.ofOwn ((HS.out.now).2.2.2.2.1)
  have HBT := Lib.hid ((HS.out.now).2.2.2.2.2.2.2.1)
  go_wp2_with (at_builtin; refine wpList_append_any rfl (.tmp 76) (.tmp 77) 27 rfl 5 i0 (.int .u8 0) 1 1 Try.underlying27 hi8 hz0 hs8 hz2 rfl (by decide) _ 0 [] rfl (own_empty _ _ _ _ (by simp)) _ L ((fileG G).map (Value.int .u8)) rfl (hr3.alloc _) h1c hap1 hap2 ?_; intro v4 w4 hap; obtain ⟨a4, c4, rfl⟩ := hap.form; have ho4 := hap.own; have hl4 := hap.low (B := wq5.heap.size) (by simp) (low_lit (Nat.le_refl _)); have hm4 := hap.modOld (Mod.alloc (fun _ => False) wq5 _) (low_lit (Nat.le_refl _)); simp only [Nat.zero_add, List.nil_append] at ho4 hl4; clear hap; obtain ⟨g, rfl⟩ := own_some3' ho4 (by omega); have hg := hl4 g rfl)
  have hbtlt : bt < wq5.heap.size := HBT.out.lt
  have hgt : bt < g := by omega
  have HWS : Hid (w.heap.size ≤ g) := Lib.hid (by have h1 := (HS.out.now).2.2.2.2.2.2.2.2.2.size; omega)
  have hbglt : bg < wq5.heap.size := ((HS.out.now).2.2.2.2.2.1).lt
  have hgg : bg < g := by omega
  have HNE : Hid (∀ k, (Value.slice x1 L y1).ownBlock = some k → ¬ k = g) := Lib.hid fun k hk e => by have := (((HS.out.now).2.2.2.2.1).lt k hk).2; omega
  replace HS := Lib.hid (HS.out.step hm4)
  clear hm4 hl4 hg hr3 h1c h1d hap1 hap2 hap3 hap4 HBT
  have hbox4 := (HS.out.now).2.2.2.2.2.2.2.1
  have hgr4 := Lib.hid ((HS.out.now).2.2.2.2.2.1)
  have hM4 := Lib.hid ((HS.out.now).2.2.2.2.2.2.2.2.2)
  have hr4 := Lib.hid (Rd.ofOwn ((HS.out.now).2.2.2.2.1))
  go_loopw [19, 20] (fun i _ wr => ∃ (j : Nat) (ps : List (Nat × Nat)), j ≤ 3 ∧ i = .int .i64 j ∧ (ps.length ≤ j ∧ ∀ p ∈ ps, p.1 < L ∧ p.2 < 8) ∧ wr.ownsRow 0 5 1 (.slice (some ⟨g, 0, none⟩) L c4) L ((ps.foldl flipL (fileG G)).map (Value.int .u8)) ∧
      Blk wr bt 45 [.int .i64 x, .int .i64 y, .int .i64 z] ∧ Mod (fun k => k = g) w4 wr) (fun i _ _ => 3 - (intOf i).toNat)
  case atStart => exact ⟨0, [], by omega, rfl, ⟨by simp, by simp⟩, ho4, hbox4, Mod.refl _ _⟩
  case round =>
    clear ho4 hbox4
    obtain ⟨j, ps, hj, rfl, hps, hown, hbox, hM⟩ := hrel
    have HPS := Lib.hid hps
    clear hps
    have hcl := foldl_flip_len6 ps (fileG G)
    rw [HL.out] at hcl
    have hcb := foldl_flip_bytes6 ps (fileG G) (fileG_range G)
    obtain ⟨cs, hcs⟩ : ∃ cs, ps.foldl flipL (fileG G) = cs := ⟨_, rfl⟩
    rw [hcs] at hown hcl hcb
    have HCL := Lib.hid hcl
    have HCS := Lib.hid hcs
    clear hcl hcs
    by_cases hlt : j < 3
    case pos =>
      have HHCB := Lib.hid hcb
      clear hcb
      obtain ⟨u, hu⟩ : ∃ u, wr.cell? ⟨bt, j, none⟩ = some (.int .i64 u) := by
        have : j = 0 ∨ j = 1 ∨ j = 2 := by omega
        rcases this with rfl | rfl | rfl
        · exact ⟨x, hbox.cell 0 rfl⟩
        · exact ⟨y, hbox.cell 1 rfl⟩
        · exact ⟨z, hbox.cell 2 rfl⟩
      have hmod := Int.emod_nonneg u (show (8 * (L : Int)) ≠ 0 by omega)
      have hmod2 := Int.emod_lt_of_pos u (show 0 < (8 * (L : Int)) by omega)
      obtain ⟨mm, hmn⟩ := Int.eq_ofNat_of_zero_le hmod
      have hmn2 : mm < 8 * L := by omega
      have HMM := Lib.hid hmn
      clear hmod hmod2 hmn
      obtain ⟨q, hq⟩ : ∃ q, mm / 8 = q := ⟨_, rfl⟩
      obtain ⟨r, hr8⟩ : ∃ r, mm % 8 = r := ⟨_, rfl⟩
      have hqn : q < L := by omega
      have hrl : r < 8 := by omega
      have hql : q < cs.length := by rw [HCL.out]; exact hqn
      have hq' : (mm : Int) / 8 = (q : Int) := by omega
      have hr' : (mm : Int) % 8 = (r : Int) := by omega
      clear hq hr8
      have hst := hown.stored q (.int .u8 (bxor cs[q] (2 ^ r)))
      have hfl : Hid (cs.set q (bxor cs[q] (2 ^ r)) = (ps ++ [(q, r)]).foldl flipL (fileG G)) := Lib.hid (by
        rw [List.foldl_append, HCS.out]
        show _ = cs.set q (bxor (cs.getD q 0) (2 ^ r))
        rw [show cs.getD q 0 = cs[q] by simp [List.getD, hql]])
      have c1 : wr.cell? ⟨g, q, none⟩ = some (.int .u8 cs[q]) := by rw [hown.cellAt q (by omega)]; simp [hql]
      have c2 := hown.frozenAt q
      obtain ⟨e, he⟩ : ∃ e, cs[q] = e := ⟨_, rfl⟩
      rw [he] at hst c1 hfl
      clear he
      have hx : Hid (bits .xor .u8 e (2 ^ r % 256) = bxor e (2 ^ r)) := by
        refine Lib.hid ?_
        rw [bxor_bits]
        congr 1
        have : r = 0 ∨ r = 1 ∨ r = 2 ∨ r = 3 ∨ r = 4 ∨ r = 5 ∨ r = 6 ∨ r = 7 := by omega
        rcases this with rfl | rfl | rfl | rfl | rfl | rfl | rfl | rfl <;> decide
      rw [← List.map_set] at hst
      have hst1 := Lib.hid hst.1
      have hst2 := Lib.hid (hM.trans ((Mod.ofGrown hst.2).mono (fun k _ h => (Option.some.inj h).symm)) (H := fun k => k = g) (fun _ _ e => e) (fun _ _ e => e))
      have hbx2 := Lib.hid (hbox.setOther ⟨g, q, none⟩ (.int .u8 (bxor e (2 ^ r))) (by show bt ≠ g; omega))
      clear hst hown hM
      go_wp2_with fail
      refine (round_any _ _ _ (by omega) (by omega)).mono ?_
      rintro e' w' ⟨rfl, rfl⟩
      rw [HMM.out]
      go_wp2_with fail
      go_region
      go_wp2
      go_roundw
      case rel =>
        rw [hx.out]
        refine ⟨j + 1, ps ++ [(q, r)], hlt, by go_num, ⟨by rw [List.length_append]; have := HPS.out.1; simp; omega, fun p hp => ?_⟩, ?_, hbx2.out.drew, hst2.out.thenDrew⟩
        · rcases List.mem_append.1 hp with e | e
          · exact HPS.out.2 p e
          · rcases List.mem_singleton.1 e with rfl
            exact ⟨hqn, hrl⟩
        · rw [← hfl.out]; exact World.ownsRow.drew hst1.out
      case measure => simp [intOf]; omega
    case neg =>
      obtain rfl : j = 3 := by omega
      have hMW := hM4.out.trans hM (H := fun _ => False) (fun _ _ e => e) (fun i hi e => by have h1 : i = g := e; have h2 := HWS.out; omega)
      have hrb := hr4.out.keep hM HNE.out
      have hgrb := hgr4.out.keep hM (fun e => by have h1 : bg = g := e; omega)
      have hrc := Rd.ofOwn hown
      have hcl2 : cs.length = L := HCL.out
      have HHC := Lib.hid hcb
      have HRB := Lib.hid hrb
      have HRC := Lib.hid hrc
      have HGR := Lib.hid hgrb
      have HMW := Lib.hid hMW
      clear hcb hrb hrc hgrb hMW hown hbox hM
      have HXY : ∀ {x y : ByteArray}, strOf cs = x → strOf (fileG G) = y → (x.toList == y.toList) = decide (cs = fileG G) := fun {x y} h1 h2 => by
        rw [← h1, ← h2, ← beq_toListBytes]
        by_cases h : cs = fileG G
        · rw [decide_eq_true h, h]; cases strOf (fileG G) with | mk x => show (x == x) = true; simp
        · rw [decide_eq_false h]; exact bytes_beq_ne3 (fun e => h (strOf_inj3 HHC.out (fileG_range G) e))
      obtain ⟨sa, hsa⟩ : ∃ x, strOf cs = x := ⟨_, rfl⟩
      obtain ⟨sb, hsb⟩ : ∃ x, strOf (fileG G) = x := ⟨_, rfl⟩
      have HXY := Lib.hid (HXY hsa hsb)
      have HSA := Lib.hid hsa
      have HSB := Lib.hid hsb
      clear hsa hsb
      go_wp2_with fail
      refine (decode_any wr (some ⟨g, 0, none⟩) L c4 cs hcl2 HRC.out HHC.out (by omega)).mono ?_
      rintro e w6 hp
      by_cases hcb : cs = fileG G
      case pos =>
        rcases hp with ⟨_, e1, f1, g1, e2, f2, g2, e3, f3, g3, rfl, _, hm6⟩ | ⟨hno, _⟩
        case inr => exact absurd (by rw [hcb, parse_file G hmay.out]; exact ⟨hmay.out, rfl⟩) hno
        have HM6 := Lib.hid hm6
        clear hm6
        go_upto_region 17 with fail
        obtain ⟨w7, hw7⟩ : ∃ W, w6.alloc (.cells #[.slice e1 f1 g1, .slice e2 f2 g2, .slice e3 f3 g3] 26) = W := ⟨_, rfl⟩
        have hm7 : Mod (fun _ => False) w6 w7 := by rw [← hw7]; exact Mod.alloc _ _ _
        try rw [hw7]
        clear hw7
        have hm67 := HM6.out.of2 hm7
        have k1 := run_strS w7 27 9 5 Try.underlying27 Try.underlying5 Try.underlying9 (HRC.out.keepA hm67 (fun _ _ e => e.elim))
        have k2 := run_strS w7 27 9 5 Try.underlying27 Try.underlying5 Try.underlying9 (HRB.out.keepA hm67 (fun _ _ e => e.elim))
        rw [HSA.out] at k1
        rw [HSB.out] at k2
        have hgb := HGR.out.keep hm67 (fun e => e)
        have q0 := hgb.cell 0 rfl
        have q1 := hgb.cell 1 rfl
        have q2 := hgb.cell 2 rfl
        have lq := hgb.lt
        clear hgb
        have hxy : (sa.toList == sb.toList) = true := by rw [HXY.out]; exact decide_eq_true hcb
        have zz : ((L : Int) == 14 + 4 * (m1 : Int) + 6 * (m2 : Int) + 4 * (m3 : Int)) = true := by have := HLL.out; simp; omega
        have HM7 := Lib.hid (HMW.out.of2 hm67)
        have HCB := Lib.hid hcb
        clear hm7 hm67 hcb
        go_wp2_with (go_at_call 7; refine (awake6_any _).mono ?_; rintro e w9 ⟨rfl, hM9⟩; have HM9 := Lib.hid hM9; clear hM9)
        go_ret
        exact ⟨rfl, HM7.out.of2 HM9.out⟩
      case neg =>
        rcases hp with ⟨hok, _⟩ | ⟨_, rfl, hm6⟩
        case inl => exact absurd (by rw [← HCS.out]; exact file_turned (H := parseG cs) (by rw [HL.out]; exact hLb) ps HPS.out.1 (fun p hp => by rw [HL.out]; exact HPS.out.2 p hp) (by rw [HCS.out]; exact hok.2)) hcb
        have HM6 := Lib.hid hm6
        clear hm6
        go_upto_region 17 with fail
        obtain ⟨w7, hw7⟩ : ∃ W, w6.alloc (.cells #[.slice none 0 0, .slice none 0 0, .slice none 0 0] 26) = W := ⟨_, rfl⟩
        have hm7 : Mod (fun _ => False) w6 w7 := by rw [← hw7]; exact Mod.alloc _ _ _
        try rw [hw7]
        clear hw7
        have hm67 := HM6.out.of2 hm7
        have k1 := run_strS w7 27 9 5 Try.underlying27 Try.underlying5 Try.underlying9 (HRC.out.keepA hm67 (fun _ _ e => e.elim))
        have k2 := run_strS w7 27 9 5 Try.underlying27 Try.underlying5 Try.underlying9 (HRB.out.keepA hm67 (fun _ _ e => e.elim))
        rw [HSA.out] at k1
        rw [HSB.out] at k2
        have hgb := HGR.out.keep hm67 (fun e => e)
        have q0 := hgb.cell 0 rfl
        have q1 := hgb.cell 1 rfl
        have q2 := hgb.cell 2 rfl
        have lq := hgb.lt
        clear hgb
        have hxy : (sa.toList == sb.toList) = false := by rw [HXY.out]; exact decide_eq_false hcb
        have zz : ((L : Int) == 14 + 4 * (m1 : Int) + 6 * (m2 : Int) + 4 * (m3 : Int)) = true := by have := HLL.out; simp; omega
        have HM7 := Lib.hid (HMW.out.of2 hm67)
        have HCB := Lib.hid hcb
        clear hm7 hm67 hcb
        go_wp2_with (go_at_call 7; refine (awake6_any _).mono ?_; rintro e w9 ⟨rfl, hM9⟩; have HM9 := Lib.hid hM9; clear hM9)
        go_ret
        exact ⟨rfl, HM7.out.of2 HM9.out⟩
theorem fback6_law (w : World) (a0 : Option Addr) (m c0 : Nat) (l : List Int) (ok : (encSlice (encInt .i64)).ok w (.slice a0 m c0, l)) (cut : Int) (_ : (Lit.int .i64 cut).wf = true) (more : Int) (hm : (Lit.int .u8 more).wf = true) (cs : Array Value) (x : Int × Int × Int) (hcs : cs.toList = (encPair (encInt .i64) (encPair (encInt .i64) (encInt .i64))).img x) (_ : (encPair (encInt .i64) (encPair (encInt .i64) (encInt .i64))).ok w x) :
    Calls Try.prog 4 #[.slice a0 m c0, .int .i64 cut, .int .u8 more, .agg cs] w fun e w' => e = .returned (.bool true) ∧ Below w.heap.size w w' := by
  obtain ⟨h1, r1, _⟩ := ok_ints ok
  obtain ⟨x, y, z⟩ := x
  have e : cs = #[.int .i64 x, .int .i64 y, .int .i64 z] := Array.toList_inj.1 hcs
  subst e
  exact (fback_all6 w a0 m c0 l h1 r1 cut more (byte_wf hm) x y z).mono fun e w' h => ⟨h.1, h.2.below (Nat.le_refl _) (fun _ e => e.elim)⟩
end Go.Proofs.Ytdccpikddhpleaa
