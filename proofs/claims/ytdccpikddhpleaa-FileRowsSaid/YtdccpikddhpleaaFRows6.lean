/- FileRows walked. -/
import Derived.Test.YtdccpikddhpleaaAwake6
import Derived.Test.YtdccpikddhpleaaSame2
import Derived.Test.YtdccpikddhpleaaTown3
import Derived.Test.YtdccpikddhpleaaOpens
import Derived.Test.YtdccpikddhpleaaRegion2
import Derived.Deep.DeepCutAuto
import Derived.Deep.CutBlock
namespace Go.Proofs.Ytdccpikddhpleaa
open Go.RowKit Mile
set_option maxRecDepth 100000
theorem opens_il6 : Opens Try.prog 44 (encSlice (encInt .i64)) := opens_slice Try.underlying44 (by kernel_rfl) (opens_int Try.underlying3) (by decide)
theorem town_gv6 (w : World) (a0 : Option Addr) (m c0 : Nat) (l : List Int) (hm : l.length = m) (hr : Rd w 1 (.slice a0 m c0) m (l.map (Value.int .i64))) :
    Calls Try.prog 14 #[.slice a0 m c0] w fun e w' => ∃ a1 n1 d1 a2 n2 d2 a3 n3 d3, e = .returned (.agg #[.slice a1 n1 d1, .slice a2 n2 d2, .slice a3 n3 d3]) ∧
      GV w' a1 n1 d1 a2 n2 d2 a3 n3 d3 (townG l) ∧ Mod (fun _ => False) w w' :=
  (town_any w a0 m c0 l hm hr).mono fun _ _ ⟨a1, n1, d1, a2, n2, d2, a3, n3, d3, he, h1, h2, h3, ht, hM⟩ => by
    subst h1 h2 h3
    exact ⟨a1, _, d1, a2, _, d2, a3, _, d3, he, ⟨rfl, rfl, rfl, Rd.ofOwn ht.o1, Rd.ofOwn ht.o2, Rd.ofOwn ht.o3⟩, hM⟩
/-- An element of a row of bytes. -/
theorem rdB {w : World} {n c : Nat} {a : Option Addr} {S : List Int} (h : Rd w 1 (.slice a n c) n (S.map (Value.int .u8))) (i : Nat) (x : Int) (hx : S[i]? = some x) :
    ∃ b o, elemA a i 1 = ⟨b, o, none⟩ ∧ w.cell? ⟨b, o, none⟩ = some (.int .u8 x) := by
  have hi : i < S.length := by rw [List.getElem?_eq_some_iff] at hx; exact hx.1
  have hn : n = S.length := by have := h.1; simp at this; omega
  obtain ⟨b, o, hp, _⟩ := h.place (j := i) (by omega)
  exact ⟨b, o, hp, by have := h.elem (j := i) (u := .int .u8 x) (by simp [hx]); rwa [hp] at this⟩
/-- Two bytes are a number. -/
theorem two_bytes (x : Int) (h : 0 ≤ x ∧ x < 65536) : ∃ u v : Int, digs x 2 = [u, v] ∧ (0 ≤ u ∧ u < 256) ∧ (0 ≤ v ∧ v < 256) ∧ u * 256 + v = x := by
  refine ⟨(x / 2 ^ 8) % 256, (x / 2 ^ 0) % 256, rfl, by omega, by omega, by omega⟩
theorem node_bytes (x : P2) : nodeB x = digs x.1 2 ++ digs x.2 2 := by simp [nodeB, nb2]
theorem edge_bytes (x : P3) : edgeB x = digs x.1 2 ++ (digs x.2.1 2 ++ digs x.2.2 2) := by simp [edgeB, nb2]
/-- What each operation of the statement leaves. -/
def fr_r6_0_F (a1 : Option Addr) (a2 : Option Addr) (a3 : Option Addr) (n1 : Nat) (d1 : Nat) (n2 : Nat) (d2 : Nat) (n3 : Nat) (d3 : Nat) (b1 : Option Addr) (b2 : Option Addr) (b3 : Option Addr) (m1 : Nat) (v1 : Nat) (m2 : Nat) (v2 : Nat) (m3 : Nat) (v3 : Nat) (x1 : Option Addr) (x2 : Option Addr) (L : Nat) (y1 : Nat) (LH : Nat) (y2 : Nat) (r : Bool) (sa : ByteArray) (sb : ByteArray) : List (Value → World → Prop) :=
  [IsV (.int .i64 0),
   IsV (.bool false),
   IsV (.bool false),
   IsV (.int .i64 0),
   IsV (.bool false),
   IsV (.bool false),
   IsV (.bool false),
   IsV (.slice x1 L y1),
   IsV (.int .i64 (L : Int)),
   IsV (.bool false),
   IsV (.bool false),
   IsV (.bool false),
   IsV (.slice x1 L y1),
   IsV (.string sa),
   IsV (.slice x2 LH y2),
   IsV (.string sb),
   IsV (.bool r),
   IsV (.agg #[.slice a1 n1 d1, .slice a2 n2 d2, .slice a3 n3 d3]),
   IsV (.agg #[.slice b1 m1 v1, .slice b2 m2 v2, .slice b3 m3 v3]),
   IsV (.bool r),
   IsV (.bool false),
   IsV (.bool false)]
def fr_r6_0_D : List (List Nat) := [[], [0], [1], [2], [2, 3], [2, 4], [5], [6], [6, 7], [6, 8], [6, 9], [10], [11], [11, 12], [11], [11, 14], [11, 13, 15], [11], [11], [11, 17, 18], [11, 16, 19], [11, 20]]

set_option maxHeartbeats 32000000 in
theorem frows_all (w : World) (a0 : Option Addr) (m c0 : Nat) (l : List Int) (hm : l.length = m) (hr : Rd w 1 (.slice a0 m c0) m (l.map (Value.int .i64))) (a4 : Option Addr) (n4 d4 : Nat) (st : List Int) (hn4 : st.length = n4) (hr4 : Rd w 1 (.slice a4 n4 d4) n4 (st.map (Value.int .i64))) :
    Calls Try.prog 5 #[.slice a0 m c0, .slice a4 n4 d4] w fun e w' => e = .returned (.bool true) ∧ Mod (fun _ => False) w w' := by
  obtain ⟨iN, hiN, hzN, hsN, hbN⟩ := info_parts GR.infoN
  obtain ⟨iE, hiE, hzE, hsE, hbE⟩ := info_parts GR.infoE
  obtain ⟨i0, hi8, hz0, hs8, hz2⟩ := info_parts Chk.info5
  by_cases hlen0 : m ≤ 100
  case neg =>
    have HS : Hid (Ev (Mod (fun _ => False) w) w) := Lib.hid (Ev.mod w)
    have z0 : decide (100 < (m : Int)) = true := by simp; omega
    have z1 : decide (100 < m) = true := by simp; omega
    go_enter Try.func5, Try.ntmps5
    go_wp2_with fail
    refine (awake6_any _).mono ?_
    rintro e wq1 ⟨rfl, hm⟩
    replace HS := Lib.hid (HS.out.step hm)
    clear hm
    go_wp2_with fail
    go_ret
    exact ⟨rfl, HS.out.now⟩
  by_cases hlen1 : n4 ≤ 100
  case neg =>
    have HS : Hid (Ev (Mod (fun _ => False) w) w) := Lib.hid (Ev.mod w)
    have y0 : decide (100 < (m : Int)) = false := by simp; omega
    have z0 : decide (100 < (n4 : Int)) = true := by simp; omega
    have z1 : decide (100 < n4) = true := by simp; omega
    go_enter Try.func5, Try.ntmps5
    go_wp2_with fail
    refine (awake6_any _).mono ?_
    rintro e wq2 ⟨rfl, hm⟩
    replace HS := Lib.hid (HS.out.step hm)
    clear hm
    go_wp2_with fail
    go_ret
    exact ⟨rfl, HS.out.now⟩
  have HS : Hid (Ev (Mod (fun _ => False) w) w) := Lib.hid (Ev.mod w)
  have y0 : decide (100 < (m : Int)) = false := by simp; omega
  have y1 : decide (100 < (n4 : Int)) = false := by simp; omega
  replace HS := Lib.hid ((Ev.rd hr).and HS.out)
  replace HS := Lib.hid ((Ev.rd hr4).and HS.out)
  have HM := Lib.hid hm
  have HN4 := Lib.hid hn4
  clear hm hn4 hr hr4
  go_enter Try.func5, Try.ntmps5
  go_wp2_with fail
  refine (town_gv6 _ a0 m c0 l HM.out ((HS.out.now).2.1)).mono ?_
  rintro e wq90 ⟨a1, n1, d1, a2, n2, d2, a3, n3, d3, rfl, hg, hmm⟩
  replace HS := Lib.hid (HS.out.step hmm)
  replace HS := Lib.hid ((Ev.gv hg).and HS.out)
  clear hmm hg
  go_wp2_with fail
  refine (town_gv6 _ a4 n4 d4 st HN4.out ((HS.out.now).2.1)).mono ?_
  rintro e wq91 ⟨b1, m1, v1, b2, m2, v2, b3, m3, v3, rfl, hg, hmm⟩
  replace HS := Lib.hid (HS.out.step hmm)
  replace HS := Lib.hid ((Ev.gv hg).and HS.out)
  clear hmm hg y0 y1
  have hmay := Lib.hid (town_may l)
  have hmayH := Lib.hid (town_may st)
  have hfew := Lib.hid (town_few l)
  have hfewH := Lib.hid (town_few st)
  obtain ⟨G, hG⟩ : ∃ G, townG l = G := ⟨_, rfl⟩
  rw [hG] at hmay hfew HS
  clear hG
  obtain ⟨H, hH⟩ : ∃ G, townG st = G := ⟨_, rfl⟩
  rw [hH] at hmayH hfewH HS
  clear hH
  have hn := Lib.hid ((HS.out.now).2.1.n)
  have he := Lib.hid ((HS.out.now).2.1.e)
  have hb := Lib.hid ((HS.out.now).2.1.b)
  have h1n : n1 ≤ 16 := by have := hfew.out.1.2; have := hn.out; omega
  have h2n : n2 ≤ 67 := by have := hfew.out.2.1.2; have := he.out; omega
  have h3n : n3 ≤ 469 := by have := hfew.out.2.2; have := hb.out; omega
  go_upto_region 4 with fail
  obtain ⟨bg, hbg⟩ : ∃ b, wq91.heap.size = b := ⟨_, rfl⟩
  obtain ⟨wq3, hwq3⟩ : ∃ W, World.alloc wq91 (.cells #[.slice a1 n1 d1, .slice a2 n2 d2, .slice a3 n3 d3] 26) = W := ⟨_, rfl⟩
  have hBbg : Blk wq3 bg 26 [.slice a1 n1 d1, .slice a2 n2 d2, .slice a3 n3 d3] := by rw [← hwq3, ← hbg]; exact Blk.new _ 26 [.slice a1 n1 d1, .slice a2 n2 d2, .slice a3 n3 d3]
  have hzbg : wq3.heap.size = bg + 1 := by rw [← hwq3, ← hbg]; exact heap_size_alloc _ _
  replace HS := Lib.hid (HS.out.step (w' := wq3) (by rw [← hwq3]; exact Mod.alloc _ _ _))
  replace HS := Lib.hid ((Ev.blk hBbg).and HS.out)
  obtain ⟨bh, hbh⟩ : ∃ b, bg + 1 = b := ⟨_, rfl⟩
  obtain ⟨wq4, hwq4⟩ : ∃ W, World.alloc wq3 (.cells #[.slice b1 m1 v1, .slice b2 m2 v2, .slice b3 m3 v3] 26) = W := ⟨_, rfl⟩
  have hBbh : Blk wq4 bh 26 [.slice b1 m1 v1, .slice b2 m2 v2, .slice b3 m3 v3] := by rw [← hwq4, ← hbh, ← hzbg]; exact Blk.new _ 26 [.slice b1 m1 v1, .slice b2 m2 v2, .slice b3 m3 v3]
  have hzbh : wq4.heap.size = bh + 1 := by rw [← hwq4, ← hbh, ← hzbg]; exact heap_size_alloc _ _
  replace HS := Lib.hid (HS.out.step (w' := wq4) (by rw [← hwq4]; exact Mod.alloc _ _ _))
  replace HS := Lib.hid ((Ev.blk hBbh).and HS.out)
  try rw [hwq3]
  try rw [hbg]
  try rw [hwq4]
  try rw [hbh]
  clear hzbh hBbh hbh hwq4 hzbg hBbg hbg hwq3
  have hbbg := (HS.out.now).2.1
  have qbg_0 := hbbg.cell 0 rfl
  have qbg_1 := hbbg.cell 1 rfl
  have qbg_2 := hbbg.cell 2 rfl
  have lbg := hbbg.lt
  clear hbbg
  have hbbh := (HS.out.now).1
  have qbh_0 := hbbh.cell 0 rfl
  have qbh_1 := hbbh.cell 1 rfl
  have qbh_2 := hbbh.cell 2 rfl
  have lbh := hbbh.lt
  clear hbbh
  go_wp2_with fail
  refine (encode_any G _ a1 n1 d1 a2 n2 d2 a3 n3 d3 ((HS.out.now).2.2.2.1)).mono ?_
  rintro e wq92 hp
  rcases hp with ⟨_, x1, y1, rfl, ho, hmm⟩ | ⟨hno, _⟩
  case inr => exact absurd hmay.out hno
  obtain ⟨L, hL⟩ : ∃ k, (fileG G).length = k := ⟨_, rfl⟩
  rw [hL] at ho ⊢
  have HL := Lib.hid hL
  clear hL
  replace HS := Lib.hid (HS.out.step hmm)
  replace HS := Lib.hid ((Ev.rd (Rd.ofOwn ho)).and HS.out)
  clear ho hmm
  clear qbg_0 qbg_1 qbg_2 lbg qbh_0 qbh_1 qbh_2 lbh
  have hbbg := (HS.out.now).2.2.1
  have qbg_0 := hbbg.cell 0 rfl
  have qbg_1 := hbbg.cell 1 rfl
  have qbg_2 := hbbg.cell 2 rfl
  have lbg := hbbg.lt
  clear hbbg
  have hbbh := (HS.out.now).2.1
  have qbh_0 := hbbh.cell 0 rfl
  have qbh_1 := hbbh.cell 1 rfl
  have qbh_2 := hbbh.cell 2 rfl
  have lbh := hbbh.lt
  clear hbbh
  go_wp2_with fail
  refine (encode_any H _ b1 m1 v1 b2 m2 v2 b3 m3 v3 ((HS.out.now).2.2.2.1)).mono ?_
  rintro e wq93 hp
  rcases hp with ⟨_, x2, y2, rfl, ho, hmm⟩ | ⟨hno, _⟩
  case inr => exact absurd hmayH.out hno
  obtain ⟨LH, hK⟩ : ∃ k, (fileG H).length = k := ⟨_, rfl⟩
  rw [hK] at ho ⊢
  have HK := Lib.hid hK
  clear hK
  replace HS := Lib.hid (HS.out.step hmm)
  replace HS := Lib.hid ((Ev.rd (Rd.ofOwn ho)).and HS.out)
  clear ho hmm
  clear qbg_0 qbg_1 qbg_2 lbg qbh_0 qbh_1 qbh_2 lbh
  have hbbg := (HS.out.now).2.2.2.1
  have qbg_0 := hbbg.cell 0 rfl
  have qbg_1 := hbbg.cell 1 rfl
  have qbg_2 := hbbg.cell 2 rfl
  have lbg := hbbg.lt
  clear hbbg
  have hbbh := (HS.out.now).2.2.1
  have qbh_0 := hbbh.cell 0 rfl
  have qbh_1 := hbbh.cell 1 rfl
  have qbh_2 := hbbh.cell 2 rfl
  have lbh := hbbh.lt
  clear hbbh
  obtain ⟨r, hr⟩ : ∃ r : Bool, r = true ↔ G = H := by rcases Classical.em (G = H) with h | h; exact ⟨true, by simp [h]⟩; exact ⟨false, by simp [h]⟩
  have HR := Lib.hid hr
  clear hr
  have HLL : Hid (L = 14 + 4 * n1 + 6 * n2 + 4 * n3) := Lib.hid (by rw [← HL.out, fileG_len, hn.out, he.out, hb.out])
  have hL14 : 14 ≤ L := by have := HLL.out; omega
  have hLb : L ≤ 3000 := by have := HLL.out; omega
  have HXY : Hid (((strOf (fileG G)).toList == (strOf (fileG H)).toList) = r) := Lib.hid (by
    rw [← beq_toListBytes]
    cases r with
    | true => rw [HR.out.1 rfl]; cases strOf (fileG H) with | mk x => show (x == x) = true; simp
    | false => exact bytes_beq_ne3 (fun e => by have := HR.out.2 (file_inj hmay.out hmayH.out (strOf_inj3 (fileG_range G) (fileG_range H) e)); simp at this))
  obtain ⟨sa, hsa⟩ : ∃ x, strOf (fileG G) = x := ⟨_, rfl⟩
  obtain ⟨sb, hsb⟩ : ∃ x, strOf (fileG H) = x := ⟨_, rfl⟩
  rw [hsa, hsb] at HXY
  have HSA := Lib.hid hsa
  have HSB := Lib.hid hsb
  clear hsa hsb
  go_upto_region 6 with fail
  clear qbg_0 qbg_1 qbg_2 lbg qbh_0 qbh_1 qbh_2 lbh
  have HSd := Lib.hid HS.out.drew
  refine wp_region_inv3 (act := ?actfr_r6_0) (Mod (fun _ => False)) (fun i => (fr_r6_0_F a1 a2 a3 n1 d1 n2 d2 n3 d3 b1 b2 b3 m1 v1 m2 v2 m3 v3 x1 x2 L y1 LH y2 r sa sb).getD i (fun _ _ => True)) (fun i => fr_r6_0_D.getD i []) (by kernel_rfl) (by kernel_rfl) (by kernel_rfl) (by kernel_rfl) (fun _ => Mod.refl _ _)
    (fun _ _ _ h k => h.trans k (fun _ _ e => e) (fun _ _ e => e)) ?hactfr_r6_0 (stable_list ?_) ?_ ?_
  case hactfr_r6_0 => intro vs; simp only [putAll, Nat.zero_add, Nat.reduceAdd, Act.put, List.setIfInBounds_toArray, List.set_cons_succ, List.set_cons_zero]; exact rfl
  · unfold fr_r6_0_F
    exact stable_cons (stable_val _) <| stable_cons (stable_val _) <| stable_cons (stable_val _) <| stable_cons (stable_val _) <| stable_cons (stable_val _) <| stable_cons (stable_val _) <| stable_cons (stable_val _) <| stable_cons (stable_val _) <| stable_cons (stable_val _) <| stable_cons (stable_val _) <| stable_cons (stable_val _) <| stable_cons (stable_val _) <| stable_cons (stable_val _) <| stable_cons (stable_val _) <| stable_cons (stable_val _) <| stable_cons (stable_val _) <| stable_cons (stable_val _) <| stable_cons (stable_val _) <| stable_cons (stable_val _) <| stable_cons (stable_val _) <| stable_cons (stable_val _) <| stable_cons (stable_val _) <| stable_nil
  · refine opsOkA_cons ?_ ?_
    · intro K vs W hR hD hK
      clear hD
      try dsimp only at hK ⊢
      simp only [Act.put, List.setIfInBounds_toArray, List.set_cons_succ, List.set_cons_zero] at hK
      go_wp2
      exact hK _ _ rfl (Mod.refl _ _)
    refine opsOkA_cons ?_ ?_
    · intro K vs W hR hD hK
      have dq0 : vs 0 = .int .i64 0 := hD 0 (by decide)
      clear hD
      try dsimp only at hK ⊢
      simp only [Act.put, List.setIfInBounds_toArray, List.set_cons_succ, List.set_cons_zero] at hK
      generalize vs 0 = vq0 at hK dq0 ⊢
      subst vq0
      go_wp2
      exact hK _ _ rfl (Mod.refl _ _)
    refine opsOkA_cons ?_ ?_
    · intro K vs W hR hD hK
      have dq1 : vs 1 = .bool false := hD 1 (by decide)
      clear hD
      try dsimp only at hK ⊢
      simp only [Act.put, List.setIfInBounds_toArray, List.set_cons_succ, List.set_cons_zero] at hK
      generalize vs 1 = vq1 at hK dq1 ⊢
      subst vq1
      go_wp2
      exact hK _ _ rfl (Mod.refl _ _)
    refine opsOkA_cons ?_ ?_
    · intro K vs W hR hD hK
      have dq2 : vs 2 = .bool false := hD 2 (by decide)
      clear hD
      try dsimp only at hK ⊢
      simp only [Act.put, List.setIfInBounds_toArray, List.set_cons_succ, List.set_cons_zero] at hK
      generalize vs 2 = vq2 at hK dq2 ⊢
      subst vq2
      go_wp2
      exact hK _ _ rfl (Mod.refl _ _)
    refine opsOkA_cons ?_ ?_
    · intro K vs W hR hD hK
      have dq2 : vs 2 = .bool false := hD 2 (by decide)
      have dq3 : vs 3 = .int .i64 0 := hD 3 (by decide)
      clear hD
      try dsimp only at hK ⊢
      simp only [Act.put, List.setIfInBounds_toArray, List.set_cons_succ, List.set_cons_zero] at hK
      generalize vs 2 = vq2 at hK dq2 ⊢
      subst vq2
      generalize vs 3 = vq3 at hK dq3 ⊢
      subst vq3
      go_wp2
      exact hK _ _ rfl (Mod.refl _ _)
    refine opsOkA_cons ?_ ?_
    · intro K vs W hR hD hK
      have dq2 : vs 2 = .bool false := hD 2 (by decide)
      have dq4 : vs 4 = .bool false := hD 4 (by decide)
      clear hD
      try dsimp only at hK ⊢
      simp only [Act.put, List.setIfInBounds_toArray, List.set_cons_succ, List.set_cons_zero] at hK
      generalize vs 2 = vq2 at hK dq2 ⊢
      subst vq2
      generalize vs 4 = vq4 at hK dq4 ⊢
      subst vq4
      go_wp2
      exact hK _ _ rfl (Mod.refl _ _)
    refine opsOkA_cons ?_ ?_
    · intro K vs W hR hD hK
      have dq5 : vs 5 = .bool false := hD 5 (by decide)
      clear hD
      try dsimp only at hK ⊢
      simp only [Act.put, List.setIfInBounds_toArray, List.set_cons_succ, List.set_cons_zero] at hK
      generalize vs 5 = vq5 at hK dq5 ⊢
      subst vq5
      go_wp2
      exact hK _ _ rfl (Mod.refl _ _)
    refine opsOkA_cons ?_ ?_
    · intro K vs W hR hD hK
      have dq6 : vs 6 = .bool false := hD 6 (by decide)
      clear hD
      try dsimp only at hK ⊢
      simp only [Act.put, List.setIfInBounds_toArray, List.set_cons_succ, List.set_cons_zero] at hK
      generalize vs 6 = vq6 at hK dq6 ⊢
      subst vq6
      go_wp2
      exact hK _ _ rfl (Mod.refl _ _)
    refine opsOkA_cons ?_ ?_
    · intro K vs W hR hD hK
      have dq6 : vs 6 = .bool false := hD 6 (by decide)
      have dq7 : vs 7 = .slice x1 L y1 := hD 7 (by decide)
      clear hD
      try dsimp only at hK ⊢
      simp only [Act.put, List.setIfInBounds_toArray, List.set_cons_succ, List.set_cons_zero] at hK
      generalize vs 6 = vq6 at hK dq6 ⊢
      subst vq6
      generalize vs 7 = vq7 at hK dq7 ⊢
      subst vq7
      go_wp2_with fail
      exact hK _ _ rfl (Mod.refl _ _)
    refine opsOkA_cons ?_ ?_
    · intro K vs W hR hD hK
      have dq6 : vs 6 = .bool false := hD 6 (by decide)
      have dq8 : vs 8 = .int .i64 (L : Int) := hD 8 (by decide)
      clear hD
      try dsimp only at hK ⊢
      simp only [Act.put, List.setIfInBounds_toArray, List.set_cons_succ, List.set_cons_zero] at hK
      generalize vs 6 = vq6 at hK dq6 ⊢
      subst vq6
      generalize vs 8 = vq8 at hK dq8 ⊢
      subst vq8
      have z0 : decide ((L : Int) < 14) = false := by simp; omega
      go_wp2
      exact hK _ _ rfl (Mod.refl _ _)
    refine opsOkA_cons ?_ ?_
    · intro K vs W hR hD hK
      have dq6 : vs 6 = .bool false := hD 6 (by decide)
      have dq9 : vs 9 = .bool false := hD 9 (by decide)
      clear hD
      try dsimp only at hK ⊢
      simp only [Act.put, List.setIfInBounds_toArray, List.set_cons_succ, List.set_cons_zero] at hK
      generalize vs 6 = vq6 at hK dq6 ⊢
      subst vq6
      generalize vs 9 = vq9 at hK dq9 ⊢
      subst vq9
      go_wp2
      exact hK _ _ rfl (Mod.refl _ _)
    refine opsOkA_cons ?_ ?_
    · intro K vs W hR hD hK
      have dq10 : vs 10 = .bool false := hD 10 (by decide)
      clear hD
      try dsimp only at hK ⊢
      simp only [Act.put, List.setIfInBounds_toArray, List.set_cons_succ, List.set_cons_zero] at hK
      generalize vs 10 = vq10 at hK dq10 ⊢
      subst vq10
      go_wp2
      exact hK _ _ rfl (Mod.refl _ _)
    refine opsOkA_cons ?_ ?_
    · intro K vs W hR hD hK
      have dq11 : vs 11 = .bool false := hD 11 (by decide)
      clear hD
      try dsimp only at hK ⊢
      simp only [Act.put, List.setIfInBounds_toArray, List.set_cons_succ, List.set_cons_zero] at hK
      generalize vs 11 = vq11 at hK dq11 ⊢
      subst vq11
      go_wp2
      exact hK _ _ rfl (Mod.refl _ _)
    refine opsOkA_cons ?_ ?_
    · intro K vs W hR hD hK
      have dq11 : vs 11 = .bool false := hD 11 (by decide)
      have dq12 : vs 12 = .slice x1 L y1 := hD 12 (by decide)
      clear hD
      try dsimp only at hK ⊢
      simp only [Act.put, List.setIfInBounds_toArray, List.set_cons_succ, List.set_cons_zero] at hK
      generalize vs 11 = vq11 at hK dq11 ⊢
      subst vq11
      generalize vs 12 = vq12 at hK dq12 ⊢
      subst vq12
      have k0 := run_strS W 27 9 5 Try.underlying27 Try.underlying5 Try.underlying9 ((HSd.out.at (hR)).2.1)
      rw [HSA.out] at k0
      go_wp2
      exact hK _ _ rfl (Mod.refl _ _)
    refine opsOkA_cons ?_ ?_
    · intro K vs W hR hD hK
      have dq11 : vs 11 = .bool false := hD 11 (by decide)
      clear hD
      try dsimp only at hK ⊢
      simp only [Act.put, List.setIfInBounds_toArray, List.set_cons_succ, List.set_cons_zero] at hK
      generalize vs 11 = vq11 at hK dq11 ⊢
      subst vq11
      go_wp2
      exact hK _ _ rfl (Mod.refl _ _)
    refine opsOkA_cons ?_ ?_
    · intro K vs W hR hD hK
      have dq11 : vs 11 = .bool false := hD 11 (by decide)
      have dq14 : vs 14 = .slice x2 LH y2 := hD 14 (by decide)
      clear hD
      try dsimp only at hK ⊢
      simp only [Act.put, List.setIfInBounds_toArray, List.set_cons_succ, List.set_cons_zero] at hK
      generalize vs 11 = vq11 at hK dq11 ⊢
      subst vq11
      generalize vs 14 = vq14 at hK dq14 ⊢
      subst vq14
      have k0 := run_strS W 27 9 5 Try.underlying27 Try.underlying5 Try.underlying9 ((HSd.out.at (hR)).1)
      rw [HSB.out] at k0
      go_wp2
      exact hK _ _ rfl (Mod.refl _ _)
    refine opsOkA_cons ?_ ?_
    · intro K vs W hR hD hK
      have dq11 : vs 11 = .bool false := hD 11 (by decide)
      have dq13 : vs 13 = .string sa := hD 13 (by decide)
      have dq15 : vs 15 = .string sb := hD 15 (by decide)
      clear hD
      try dsimp only at hK ⊢
      simp only [Act.put, List.setIfInBounds_toArray, List.set_cons_succ, List.set_cons_zero] at hK
      generalize vs 11 = vq11 at hK dq11 ⊢
      subst vq11
      generalize vs 13 = vq13 at hK dq13 ⊢
      subst vq13
      generalize vs 15 = vq15 at hK dq15 ⊢
      subst vq15
      have hxy := HXY.out
      go_wp2
      exact hK _ _ rfl (Mod.refl _ _)
    refine opsOkA_cons ?_ ?_
    · intro K vs W hR hD hK
      have dq11 : vs 11 = .bool false := hD 11 (by decide)
      clear hD
      try dsimp only at hK ⊢
      simp only [Act.put, List.setIfInBounds_toArray, List.set_cons_succ, List.set_cons_zero] at hK
      generalize vs 11 = vq11 at hK dq11 ⊢
      subst vq11
      have hbx := (HSd.out.at (hR)).2.2.2.1
      have q0 := hbx.cell 0 rfl
      have q1 := hbx.cell 1 rfl
      have q2 := hbx.cell 2 rfl
      go_wp2
      exact hK _ _ rfl (Mod.refl _ _)
    refine opsOkA_cons ?_ ?_
    · intro K vs W hR hD hK
      have dq11 : vs 11 = .bool false := hD 11 (by decide)
      clear hD
      try dsimp only at hK ⊢
      simp only [Act.put, List.setIfInBounds_toArray, List.set_cons_succ, List.set_cons_zero] at hK
      generalize vs 11 = vq11 at hK dq11 ⊢
      subst vq11
      have hbx := (HSd.out.at (hR)).2.2.1
      have q0 := hbx.cell 0 rfl
      have q1 := hbx.cell 1 rfl
      have q2 := hbx.cell 2 rfl
      go_wp2
      exact hK _ _ rfl (Mod.refl _ _)
    refine opsOkA_cons ?_ ?_
    · intro K vs W hR hD hK
      have dq11 : vs 11 = .bool false := hD 11 (by decide)
      have dq17 : vs 17 = .agg #[.slice a1 n1 d1, .slice a2 n2 d2, .slice a3 n3 d3] := hD 17 (by decide)
      have dq18 : vs 18 = .agg #[.slice b1 m1 v1, .slice b2 m2 v2, .slice b3 m3 v3] := hD 18 (by decide)
      clear hD
      try dsimp only at hK ⊢
      simp only [Act.put, List.setIfInBounds_toArray, List.set_cons_succ, List.set_cons_zero] at hK
      generalize vs 11 = vq11 at hK dq11 ⊢
      subst vq11
      generalize vs 17 = vq17 at hK dq17 ⊢
      subst vq17
      generalize vs 18 = vq18 at hK dq18 ⊢
      subst vq18
      go_wp2_with (go_at_call 13; refine (same2_any G H r HR W a1 n1 d1 a2 n2 d2 a3 n3 d3 ((HSd.out.at (hR)).2.2.2.2.2.1) b1 m1 v1 b2 m2 v2 b3 m3 v3 ((HSd.out.at (hR)).2.2.2.2.1) (by omega) (by omega) (by omega)).mono ?_; rintro e' w' ⟨rfl, hm'⟩)
      exact hK _ _ rfl hm'
    refine opsOkA_cons ?_ ?_
    · intro K vs W hR hD hK
      have dq11 : vs 11 = .bool false := hD 11 (by decide)
      have dq16 : vs 16 = .bool r := hD 16 (by decide)
      have dq19 : vs 19 = .bool r := hD 19 (by decide)
      clear hD
      try dsimp only at hK ⊢
      simp only [Act.put, List.setIfInBounds_toArray, List.set_cons_succ, List.set_cons_zero] at hK
      generalize vs 11 = vq11 at hK dq11 ⊢
      subst vq11
      generalize vs 16 = vq16 at hK dq16 ⊢
      subst vq16
      generalize vs 19 = vq19 at hK dq19 ⊢
      subst vq19
      have zr : (r != r) = false := by simp
      go_wp2
      exact hK _ _ rfl (Mod.refl _ _)
    refine opsOkA_cons ?_ ?_
    · intro K vs W hR hD hK
      have dq11 : vs 11 = .bool false := hD 11 (by decide)
      have dq20 : vs 20 = .bool false := hD 20 (by decide)
      clear hD
      try dsimp only at hK ⊢
      simp only [Act.put, List.setIfInBounds_toArray, List.set_cons_succ, List.set_cons_zero] at hK
      generalize vs 11 = vq11 at hK dq11 ⊢
      subst vq11
      generalize vs 20 = vq20 at hK dq20 ⊢
      subst vq20
      go_wp2
      exact hK _ _ rfl (Mod.refl _ _)
    exact opsOkA_nil
  · intro vs wq5 hR hF
    have dq21 : vs 21 = .bool false := hF 21 (by decide)
    clear hF
    try dsimp only
    generalize vs 21 = vq21 at dq21 ⊢
    subst dq21
    replace HS := Lib.hid (HSd.out.step hR)
    clear HSd hR
    have hbbg := (HS.out.now).2.2.2.1
    have qbg_0 := hbbg.cell 0 rfl
    have qbg_1 := hbbg.cell 1 rfl
    have qbg_2 := hbbg.cell 2 rfl
    have lbg := hbbg.lt
    clear hbbg
    have hbbh := (HS.out.now).2.2.1
    have qbh_0 := hbbh.cell 0 rfl
    have qbh_1 := hbbh.cell 1 rfl
    have qbh_2 := hbbh.cell 2 rfl
    have lbh := hbbh.lt
    clear hbbh
    clear qbg_0 qbg_1 qbg_2 lbg qbh_0 qbh_1 qbh_2 lbh
    have hbbg := (HS.out.now).2.2.2.1
    have qbg_0 := hbbg.cell 0 rfl
    have qbg_1 := hbbg.cell 1 rfl
    have qbg_2 := hbbg.cell 2 rfl
    have lbg := hbbg.lt
    clear hbbg
    have hbbh := (HS.out.now).2.2.1
    have qbh_0 := hbbh.cell 0 rfl
    have qbh_1 := hbbh.cell 1 rfl
    have qbh_2 := hbbh.cell 2 rfl
    have lbh := hbbh.lt
    clear hbbh
    go_wp2_with fail
    clear qbg_0 qbg_1 qbg_2 lbg qbh_0 qbh_1 qbh_2 lbh
    replace HS := Lib.hid ((Ev.mod wq5).and HS.out)
    go_loopw [11, 12] (fun at_ i wr => ∃ j : Nat, j ≤ n1 ∧ i = .int .i64 j ∧ at_ = .int .i64 ((10 + 4 * j : Nat) : Int) ∧ Mod (fun _ => False) wq5 wr) (fun _ i _ => n1 - (intOf i).toNat)
    case atStart => exact ⟨0, by omega, rfl, by first | rfl | simp, Mod.refl _ _⟩
    case round =>
      obtain ⟨j, hj, rfl, rfl, hmr⟩ := hrel
      obtain ⟨wl1, hwo⟩ : ∃ x : World, x = wr := ⟨_, rfl⟩
      subst hwo
      replace HS := Lib.hid (HS.out.step hmr)
      clear hmr
      have hbbg := (HS.out.now).2.2.2.2.1
      have qbg_0 := hbbg.cell 0 rfl
      have qbg_1 := hbbg.cell 1 rfl
      have qbg_2 := hbbg.cell 2 rfl
      have lbg := hbbg.lt
      clear hbbg
      have hbbh := (HS.out.now).2.2.2.1
      have qbh_0 := hbbh.cell 0 rfl
      have qbh_1 := hbbh.cell 1 rfl
      have qbh_2 := hbbh.cell 2 rfl
      have lbh := hbbh.lt
      clear hbbh
      obtain ⟨k, hk⟩ : ∃ k, 10 + 4 * j = k := ⟨_, rfl⟩
      rw [hk]
      have HK1 := Lib.hid hk
      clear hk
      by_cases hlt : j < n1
      case pos =>
        have hjl : j < G.N.length := by rw [hn.out]; exact hlt
        obtain ⟨x, hx⟩ : ∃ x, (G.N[j]).1 = x := ⟨_, rfl⟩
        have hxr := (may_node G hmay.out j hjl).1
        rw [hx] at hxr
        obtain ⟨u, v, huv, hu, hv, hs⟩ := two_bytes x hxr
        have ek : 10 + 4 * j = k := by have := HK1.out; omega
        have hp : (fileG G)[k + 0]? = some u := by
          have := file_node G j hjl 0 (by decide)
          rw [ek] at this
          rw [this]
          rw [node_bytes, hx, huv]; rfl
        obtain ⟨pb, po, hpl, cp⟩ := rdB ((HS.out.now).2.2.1) (k + 0) u hp
        have hlkp : k + 0 < L := by have := (List.getElem?_eq_some_iff.1 hp).1; rw [HL.out] at this; exact this
        have hixp := fun wx => run_indexS (P := Try.prog) wx 27 5 i0 1 Try.underlying27 hi8 hs8 x1 L y1 (k + 0) hlkp (((HS.out.now).2.2.1).some_ (by omega))
        rw [hpl] at hixp
        replace hixp : ∀ wx : World, (Instr.indexAt 27 (.slice x1 L y1) (.int .i64 (k : Int))).run Try.prog wx = .ok (.pointer (some ⟨pb, po, none⟩)) wx := hixp
        clear hpl hp
        have hq : (fileG G)[k + 1]? = some v := by
          have := file_node G j hjl 1 (by decide)
          rw [ek] at this
          rw [this]
          rw [node_bytes, hx, huv]; rfl
        obtain ⟨qb, qo, hpl, cq⟩ := rdB ((HS.out.now).2.2.1) (k + 1) v hq
        have hlkq : k + 1 < L := by have := (List.getElem?_eq_some_iff.1 hq).1; rw [HL.out] at this; exact this
        have hixq := fun wx => run_indexS (P := Try.prog) wx 27 5 i0 1 Try.underlying27 hi8 hs8 x1 L y1 (k + 1) hlkq (((HS.out.now).2.2.1).some_ (by omega))
        rw [hpl] at hixq
        replace hixq : ∀ wx : World, (Instr.indexAt 27 (.slice x1 L y1) (.int .i64 ((k : Int) + 1))).run Try.prog wx = .ok (.pointer (some ⟨qb, qo, none⟩)) wx := hixq
        clear hpl hq
        obtain ⟨gb, go, hpl, g0, g1⟩ := Mile.rd2 ((HS.out.now).2.2.2.2.2.2.1.rn) j hjl
        rw [hx] at g0
        clear g1
        have hixg := fun wx => run_indexS (P := Try.prog) wx 22 50 iN 2 Try.underlying22 hiN hsN a1 n1 d1 j hlt (((HS.out.now).2.2.2.2.2.2.1.rn).some_ (by omega))
        rw [hpl] at hixg
        clear hpl
        have hkL : k + 4 ≤ L := by have := HK1.out; have := HLL.out; omega
        have zk : decide ((L : Int) < (k : Int) + 4) = false := by simp; omega
        have zj : decide ((j : Int) < (n1 : Int)) = true := by simp; omega
        have hor : bits BinOp.or IntKind.i64 (u * 256) v = x := by rw [or_byte u v hu.1 (by omega) hv.1 hv.2]; exact hs
        have HX := Lib.hid hx
        have HUV := Lib.hid huv
        have HS2 := Lib.hid hs
        clear hx huv hs hxr ek
        have zn : (x != x) = false := by simp
        go_wp2_with fail
        go_quiet (fail)
        go_wp2_with fail
        go_roundw
        case rel => exact ⟨j + 1, hlt, by go_num, by have := HK1.out; go_num, ((HS.out.now).1).trans (Mod.drewN _ _ _) (fun _ _ e => e) (fun _ _ e => e)⟩
        case measure => simp [intOf]; omega
      case neg =>
        obtain rfl : j = n1 := by omega
        have zj : decide ((j : Int) < (j : Int)) = false := by simp
        go_wp2_with fail
        clear qbg_0 qbg_1 qbg_2 lbg qbh_0 qbh_1 qbh_2 lbh
        replace HS := Lib.hid ((Ev.mod wl1).and HS.out)
        obtain ⟨k0, hk0⟩ : ∃ x, x = k := ⟨_, rfl⟩
        subst hk0
        have HKA := Lib.hid HK1.out
        clear HK1 zj
        go_loopw [11, 13] (fun at_ i wr => ∃ j : Nat, j ≤ n2 ∧ i = .int .i64 j ∧ at_ = .int .i64 ((k0 + 6 * j : Nat) : Int) ∧ Mod (fun _ => False) wl1 wr) (fun _ i _ => n2 - (intOf i).toNat)
        case atStart => exact ⟨0, by omega, rfl, by first | rfl | simp, Mod.refl _ _⟩
        case round =>
          obtain ⟨j, hj, rfl, rfl, hmr⟩ := hrel
          obtain ⟨wl2, hwo⟩ : ∃ x : World, x = wr := ⟨_, rfl⟩
          subst hwo
          replace HS := Lib.hid (HS.out.step hmr)
          clear hmr
          have hbbg := (HS.out.now).2.2.2.2.2.1
          have qbg_0 := hbbg.cell 0 rfl
          have qbg_1 := hbbg.cell 1 rfl
          have qbg_2 := hbbg.cell 2 rfl
          have lbg := hbbg.lt
          clear hbbg
          have hbbh := (HS.out.now).2.2.2.2.1
          have qbh_0 := hbbh.cell 0 rfl
          have qbh_1 := hbbh.cell 1 rfl
          have qbh_2 := hbbh.cell 2 rfl
          have lbh := hbbh.lt
          clear hbbh
          obtain ⟨k, hk⟩ : ∃ k, k0 + 6 * j = k := ⟨_, rfl⟩
          rw [hk]
          have HK1 := Lib.hid hk
          clear hk
          by_cases hlt : j < n2
          case pos =>
            have hjl : j < G.E.length := by rw [he.out]; exact hlt
            obtain ⟨x, hx⟩ : ∃ x, (G.E[j]).2.1 = x := ⟨_, rfl⟩
            have hxr := (may_edge G hmay.out j hjl).2.1
            rw [hx] at hxr
            obtain ⟨u, v, huv, hu, hv, hs⟩ := two_bytes x hxr
            have ek : 10 + 4 * G.N.length + 6 * j = k := by have := HK1.out; have := hn.out; have := HKA.out; omega
            have hp : (fileG G)[k + 2]? = some u := by
              have := file_edge G j hjl 2 (by decide)
              rw [ek] at this
              rw [this]
              rw [edge_bytes, hx, huv, List.getElem?_append_right (by rw [digs_length]; decide), digs_length]; rfl
            obtain ⟨pb, po, hpl, cp⟩ := rdB ((HS.out.now).2.2.2.1) (k + 2) u hp
            have hlkp : k + 2 < L := by have := (List.getElem?_eq_some_iff.1 hp).1; rw [HL.out] at this; exact this
            have hixp := fun wx => run_indexS (P := Try.prog) wx 27 5 i0 1 Try.underlying27 hi8 hs8 x1 L y1 (k + 2) hlkp (((HS.out.now).2.2.2.1).some_ (by omega))
            rw [hpl] at hixp
            replace hixp : ∀ wx : World, (Instr.indexAt 27 (.slice x1 L y1) (.int .i64 ((k : Int) + 2))).run Try.prog wx = .ok (.pointer (some ⟨pb, po, none⟩)) wx := hixp
            clear hpl hp
            have hq : (fileG G)[k + 3]? = some v := by
              have := file_edge G j hjl 3 (by decide)
              rw [ek] at this
              rw [this]
              rw [edge_bytes, hx, huv, List.getElem?_append_right (by rw [digs_length]; decide), digs_length]; rfl
            obtain ⟨qb, qo, hpl, cq⟩ := rdB ((HS.out.now).2.2.2.1) (k + 3) v hq
            have hlkq : k + 3 < L := by have := (List.getElem?_eq_some_iff.1 hq).1; rw [HL.out] at this; exact this
            have hixq := fun wx => run_indexS (P := Try.prog) wx 27 5 i0 1 Try.underlying27 hi8 hs8 x1 L y1 (k + 3) hlkq (((HS.out.now).2.2.2.1).some_ (by omega))
            rw [hpl] at hixq
            replace hixq : ∀ wx : World, (Instr.indexAt 27 (.slice x1 L y1) (.int .i64 ((k : Int) + 3))).run Try.prog wx = .ok (.pointer (some ⟨qb, qo, none⟩)) wx := hixq
            clear hpl hq
            obtain ⟨gb, go, hpl, g0, g1, g2⟩ := Mile.rd3 ((HS.out.now).2.2.2.2.2.2.2.1.re) j hjl
            rw [hx] at g1
            clear g0 g2
            have hixg := fun wx => run_indexS (P := Try.prog) wx 23 52 iE 3 Try.underlying23 hiE hsE a2 n2 d2 j hlt (((HS.out.now).2.2.2.2.2.2.2.1.re).some_ (by omega))
            rw [hpl] at hixg
            clear hpl
            have hkL : k + 6 ≤ L := by have := HK1.out; have := HLL.out; have := HKA.out; omega
            have zk : decide ((L : Int) < (k : Int) + 6) = false := by simp; omega
            have zj : decide ((j : Int) < (n2 : Int)) = true := by simp; omega
            have hor : bits BinOp.or IntKind.i64 (u * 256) v = x := by rw [or_byte u v hu.1 (by omega) hv.1 hv.2]; exact hs
            have HX := Lib.hid hx
            have HUV := Lib.hid huv
            have HS2 := Lib.hid hs
            clear hx huv hs hxr ek
            have zn : (x != x) = false := by simp
            go_wp2_with fail
            go_quiet (fail)
            go_wp2_with fail
            go_roundw
            case rel => exact ⟨j + 1, hlt, by go_num, by have := HK1.out; go_num, ((HS.out.now).1).trans (Mod.drewN _ _ _) (fun _ _ e => e) (fun _ _ e => e)⟩
            case measure => simp [intOf]; omega
          case neg =>
            obtain rfl : j = n2 := by omega
            have zj : decide ((j : Int) < (j : Int)) = false := by simp
            have hkb : k ≤ 3000 := by have := HKA.out; have := HK1.out; have := HLL.out; omega
            have zz : ((k : Int) + 4 * (n3 : Int) + 4 == (L : Int)) = true := by have := HKA.out; have := HK1.out; have := HLL.out; simp; omega
            go_wp2_with fail
            refine (awake6_any _).mono ?_
            rintro e wq6 ⟨rfl, hmz⟩
            replace HS := Lib.hid (HS.out.step hmz)
            clear hmz
            clear qbg_0 qbg_1 qbg_2 lbg qbh_0 qbh_1 qbh_2 lbh
            have hbbg := (HS.out.now).2.2.2.2.2.1
            have qbg_0 := hbbg.cell 0 rfl
            have qbg_1 := hbbg.cell 1 rfl
            have qbg_2 := hbbg.cell 2 rfl
            have lbg := hbbg.lt
            clear hbbg
            have hbbh := (HS.out.now).2.2.2.2.1
            have qbh_0 := hbbh.cell 0 rfl
            have qbh_1 := hbbh.cell 1 rfl
            have qbh_2 := hbbh.cell 2 rfl
            have lbh := hbbh.lt
            clear hbbh
            go_wp2_with fail
            go_ret
            exact ⟨rfl, (HS.out.now).2.2.2.2.2.2.2.2.2.2⟩
theorem frows_law (w : World) (a0 : Option Addr) (m c0 : Nat) (l : List Int) (ok : (encSlice (encInt .i64)).ok w (.slice a0 m c0, l)) (a4 : Option Addr) (n4 d4 : Nat) (st : List Int) (ok4 : (encSlice (encInt .i64)).ok w (.slice a4 n4 d4, st)) :
    Calls Try.prog 5 #[.slice a0 m c0, .slice a4 n4 d4] w fun e w' => e = .returned (.bool true) ∧ Below w.heap.size w w' := by
  obtain ⟨h1, r1, _⟩ := ok_ints ok
  obtain ⟨h4, r4, _⟩ := ok_ints ok4
  exact (frows_all w a0 m c0 l h1 r1 a4 n4 d4 st h4 r4).mono fun e w' h => ⟨h.1, h.2.below (Nat.le_refl _) (fun _ e => e.elim)⟩
end Go.Proofs.Ytdccpikddhpleaa
