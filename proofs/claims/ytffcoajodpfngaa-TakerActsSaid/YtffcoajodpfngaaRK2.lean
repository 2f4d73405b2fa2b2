/- The reference's Taker.Take by contract. -/
import Derived.Test.YtffcoajodpfngaaRK1
import Derived.Test.YtffcoajodpfngaaIMap
import Derived.Test.YtffcoajodpfngaaRowT
import Derived.Test.YtffcoajodpfngaaRegion6
import Derived.Test.YtffcoajodpfngaaShp
namespace Go.Proofs.Ytffcoajodpfngaa
open Go.RowKit Mile
set_option maxRecDepth 100000
theorem RelK.st {P : Value → Value → World → Prop} {k : Nat} (h : ∀ u, Stable (Mod (fun _ => False)) (P u)) : StableP (Mod (fun _ => False)) (RelK P k) := fun _ _ _ _ hv hR => ⟨h _ _ _ _ hv.out hR⟩
theorem RelK.loc {P : Value → Value → World → Prop} {k : Nat} {D : List Nat} (hk : k ∈ D) : ∀ (vs vs' : Nat → Value) v w, (∀ j, j ∈ D → vs j = vs' j) → RelK P k vs v w → RelK P k vs' v w := fun vs vs' v w hj h => ⟨by rw [← hj k hk]; exact h.out⟩
theorem ownT_keep {T : TypeId} {size B0 n : Nat} {xs : List Value} {v : Value} {W w' : World} {F : Nat → Prop} (h : OwnT T size B0 n xs v W) (hm : Mod F W w') (hF : ∀ q, v.ownBlock = some q → ¬ F q) : OwnT T size B0 n xs v w' := by
  obtain ⟨a, c, hv, hr⟩ := h
  exact ⟨a, c, hv, Own.keep hr hm hF⟩
/-- What Take tells and leaves. -/
def RTakeP (q M N : Nat) (f1 : Hld) (w : World) (e : Ending) (w' : World) : Prop :=
  ∃ a n c vs, e = .returned (.tuple #[.slice a n c, .bool true]) ∧ (runL f1 M N).length = n ∧ Rd w' 1 (.slice a n c) n vs ∧ BodiesU w' (runL f1 M N) vs ∧
    ∃ a' n' c' L', RK w' q a' n' c' M (N + n) L' ∧ HL (fromH f1 (N + n)) L' ∧ (∀ k, (Value.slice a' n' c').ownBlock = some k → w.heap.size ≤ k) ∧ Mod (fun k => k = q) w w'
theorem c2U_one {w : World} {L : List Ud} (h : ∀ e ∈ L, BodyU w e.body e.v) : ∀ u ∈ L.flatMap c2U, u.oneCell' = true := by
  intro u hu
  obtain ⟨e, he, hx⟩ := List.mem_flatMap.1 hu
  obtain ⟨a, n, c, hv, _⟩ := h e he
  simp [c2U] at hx
  rcases hx with rfl | rfl
  · rfl
  · rw [hv]; rfl
theorem Ev.rk {w : World} {q : Nat} {a : Option Addr} {n c M N : Nat} {L : List Ud} (h : RK w q a n c M N L) : Ev (fun W => RK W q a n c M N L) w := fun _ m => h.later m

set_option maxHeartbeats 16000000 in
theorem rktake_no (w : World) (q : Nat) (a : Option Addr) (n c M N : Nat) (L : List Ud) (h : RK w q a n c M N L) (hrise : RiseU L) (hn16 : n ≤ 16) (hNb : N ≤ 1000000000000) (sv : Int) (hsw : (Lit.int .i64 sv).wf = true) (hno : sv < (N : Int) ∨ (¬ sv < (N : Int) ∧ (N : Int) + (M : Int) ≤ sv) ∨ (¬ sv < (N : Int) ∧ sv < (N : Int) + (M : Int) ∧ ∃ (i : Nat) (hi : i < L.length), (L[i].seq : Int) = sv)) (a1 : Option Addr) (n1 c1 : Nat) :
    Calls Try.prog 10 #[.pointer (some ⟨q, 0, none⟩), .int .i64 sv, .slice a1 n1 c1] w fun e w' => e = .returned (.tuple #[.slice none 0 0, .bool false]) ∧ Mod (fun _ => False) w w' := by
  rw [i64_wf] at hsw
  obtain ⟨iU, hiU, hzU, hsU, hbU⟩ := info_parts RK.infoU
  have HT := Lib.hid h
  have HRI := Lib.hid hrise
  have hlen := h.len
  have d0 := h.blk.cell 0 rfl
  have d1 := h.blk.cell 1 rfl
  have d2 := h.blk.cell 2 rfl
  have hW := h.w0
  have hW6 := h.w16
  clear h hrise
  rcases hno with h1 | ⟨h1, h2⟩ | ⟨h1, h2, ⟨i, hi, hs⟩⟩
  · have z0 : decide (sv < (N : Int)) = true := by simpa using h1
    clear h1
    go_enter Try.func10, Try.ntmps10
    go_wp2_with fail
    go_quiet (fail)
    go_wp2_with fail
    go_ret2
    exact ⟨rfl, Mod.drewN _ _ _⟩
  · obtain ⟨t, ht⟩ := Int.eq_ofNat_of_zero_le (show 0 ≤ sv - (N : Int) by omega)
    have z0 : decide (sv < (N : Int)) = false := by simpa using h1
    have z1 : decide ((M : Int) ≤ (t : Int)) = true := by simp; omega
    have z2 : decide (M ≤ t) = true := by simp; omega
    clear h1 h2
    go_enter Try.func10, Try.ntmps10
    go_wp2_with fail
    go_quiet (fail)
    go_wp2_with fail
    go_ret2
    exact ⟨rfl, Mod.drewN _ _ _⟩
  · subst hs
    obtain ⟨t, ht⟩ := Int.eq_ofNat_of_zero_le (show 0 ≤ (L[i].seq : Int) - (N : Int) by omega)
    obtain ⟨s, hs⟩ : ∃ s, L[i].seq = s := ⟨_, rfl⟩
    rw [hs] at h1 h2 ht ⊢
    have z0 : decide ((s : Int) < (N : Int)) = false := by simp; omega
    have z0b : decide (s < N) = false := by simp; omega
    have z1 : decide ((M : Int) ≤ (t : Int)) = false := by simp; omega
    have z2 : decide (M ≤ t) = false := by simp; omega
    have hsb : s ≤ 2000000000000 := by omega
    have HS := Lib.hid hs
    have HIL := Lib.hid hi
    have hin : i < n := by omega
    clear hs h1 h2 hsw
    go_enter Try.func10, Try.ntmps10
    go_wp2_with fail
    go_quiet (fail)
    go_wp2_with fail
    clear d0 d1 d2
    obtain ⟨wA, hwA⟩ : ∃ x, World.drewN w nq = x := ⟨_, rfl⟩
    have HMA := Lib.hid (show Mod (fun _ => False) w wA by rw [← hwA]; exact Mod.drewN _ _ _)
    have HTA := Lib.hid (HT.out.later HMA.out)
    rw [hwA]
    clear hwA
    have d2 := HTA.out.blk.cell 2 rfl
    go_loopw [8] (fun v wr => ∃ j : Nat, v = .int .i64 j ∧ j ≤ i ∧ wA = wr) (fun v _ => n - (intOf v).toNat)
    case atStart => exact ⟨0, rfl, Nat.zero_le _, rfl⟩
    case round =>
      obtain ⟨j, rfl, hj, rfl⟩ := hrel
      have hjn : j < n := by omega
      have y0 : decide ((j : Int) < (n : Int)) = true := by simp; omega
      have y1 : decide (j < n) = true := by simpa using hjn
      have hjl : j < L.length := by omega
      obtain ⟨eb, eo, hpl, e0, _⟩ := rd2u HTA.out.rd j hjl
      have hix := fun wx => run_indexS (P := Try.prog) wx 37 57 iU 2 Try.underlying37 hiU hsU a n c j hjn (HTA.out.rd.some_ (by omega))
      rw [hpl] at hix
      clear hpl
      by_cases hji : j < i
      case pos =>
        have hlt := List.pairwise_iff_getElem.1 HRI.out j i (by simpa using hjl) (by simpa using HIL.out) hji
        rw [List.getElem_map, List.getElem_map, HS.out] at hlt
        obtain ⟨x, hx⟩ : ∃ x, L[j].seq = x := ⟨_, rfl⟩
        rw [hx] at e0 hlt
        have y2 : decide ((x : Int) < (s : Int)) = true := by simpa using hlt
        have y3 : decide (x < s) = true := by simpa using hlt
        clear hx hlt
        go_wp2_with fail
        go_roundw
        case rel => exact ⟨j + 1, by go_num, hji, trivial⟩
        case measure => simp [intOf]; omega
      case neg =>
        obtain rfl : j = i := by omega
        rw [HS.out] at e0
        have y2 : decide ((s : Int) < (s : Int)) = false := by simp
        have y3 : decide (s < s) = false := by simp
        have y4 : ((s : Int) == (s : Int)) = true := by simp
        clear hji
        go_wp2_with fail
        go_ret2
        exact ⟨rfl, HMA.out⟩
/-- What each operation of the statement leaves. -/
def ky_r8_0_F (q : Nat) (n : Nat) (c : Nat) (n1 : Nat) (c1 : Nat) (s : Nat) (j : Nat) (B0 : Nat) (a : Option Addr) (a1 : Option Addr) (bs : List Int) (L : List Ud) : List FactP :=
  [(true, fun _ => IsV (.pointer (some ⟨q, 0, none⟩))),
   (false, fun _ => EmpT 57 2 B0),
   (true, fun _ => IsV (.pointer (some ⟨q, 0, none⟩))),
   (true, fun _ => IsV (.pointer (some ⟨q, 0, none⟩))),
   (true, fun _ => IsV (.pointer (some ⟨q, 2, none⟩))),
   (true, fun _ => IsV (.slice a n c)),
   (true, fun _ => IsV (.int .i64 (j : Int))),
   (true, fun _ => IsV (.slice a j c)),
   (false, fun _ => OwnT 57 2 B0 (j) ((L.take j).flatMap c2U)),
   (true, fun _ => IsV (.int .i64 (s : Int))),
   (false, fun _ => EmpT 5 1 B0),
   (true, fun _ => IsV (.slice a1 n1 c1)),
   (false, fun _ => OwnT 5 1 B0 (n1) (bs.map (Value.int .u8))),
   (false, RelK (fun u v _ => v = .agg #[.int .i64 (s : Int), u]) 12),
   (false, RelK (fun u => LitT 2 [.int .i64 (s : Int), u]) 12),
   (false, RelK (fun u => OwnT 57 2 B0 (j + 1) ((L.take j).flatMap c2U ++ [.int .i64 (s : Int), u])) 12),
   (true, fun _ => IsV (.pointer (some ⟨q, 0, none⟩))),
   (true, fun _ => IsV (.pointer (some ⟨q, 0, none⟩))),
   (true, fun _ => IsV (.pointer (some ⟨q, 2, none⟩))),
   (true, fun _ => IsV (.slice a n c)),
   (true, fun _ => IsV (.int .i64 (j : Int))),
   (true, fun _ => IsV (.slice (dropA a c j 2) (n - j) (c - j))),
   (false, RelK (fun u v W => OwnT 57 2 B0 (j + 1 + (n - j)) ((L.take j).flatMap c2U ++ [.int .i64 (s : Int), u] ++ (L.drop j).flatMap c2U) v W ∧ OwnT 5 1 B0 n1 (bs.map (Value.int .u8)) u W) 12),
   (true, fun _ => IsV (.pointer (some ⟨q, 0, none⟩))),
   (true, fun _ => IsV (.pointer (some ⟨q, 2, none⟩)))]
def ky_r8_0_D : List (List Nat) := [[], [], [], [2], [3], [4], [], [5, 6], [1, 7], [], [], [], [10, 11], [9, 12], [12, 13], [8, 12, 14], [], [16], [17], [18], [], [19, 20], [12, 15, 21], [0], [23]]
def ky_r8_0_C : List Nat := [1000, 8, 1000, 1000, 1000, 1000, 1000, 1000, 15, 1000, 12, 1000, 1000, 14, 15, 22, 1000, 1000, 1000, 1000, 1000, 1000, 1000, 1000, 1000]

/-- What each operation of the statement leaves. -/
def ky_r8_1_F (q : Nat) (n : Nat) (c : Nat) (n1 : Nat) (c1 : Nat) (s : Nat) (j : Nat) (B0 : Nat) (a : Option Addr) (a1 : Option Addr) (bs : List Int) (L : List Ud) : List FactP :=
  [(true, fun _ => IsV (.pointer (some ⟨q, 0, none⟩))),
   (false, fun _ => EmpT 57 2 B0),
   (true, fun _ => IsV (.pointer (some ⟨q, 0, none⟩))),
   (true, fun _ => IsV (.pointer (some ⟨q, 0, none⟩))),
   (true, fun _ => IsV (.pointer (some ⟨q, 2, none⟩))),
   (true, fun _ => IsV (.slice a n c)),
   (true, fun _ => IsV (.int .i64 (j : Int))),
   (true, fun _ => IsV (.slice a j c)),
   (false, fun _ => OwnT 57 2 B0 (j) ((L.take j).flatMap c2U)),
   (true, fun _ => IsV (.int .i64 (s : Int))),
   (false, fun _ => EmpT 5 1 B0),
   (true, fun _ => IsV (.slice a1 n1 c1)),
   (false, fun _ => OwnT 5 1 B0 (n1) (bs.map (Value.int .u8))),
   (false, RelK (fun u v _ => v = .agg #[.int .i64 (s : Int), u]) 12),
   (false, RelK (fun u => LitT 2 [.int .i64 (s : Int), u]) 12),
   (false, RelK (fun u => OwnT 57 2 B0 (j + 1) ((L.take j).flatMap c2U ++ [.int .i64 (s : Int), u])) 12),
   (true, fun _ => IsV (.pointer (some ⟨q, 0, none⟩))),
   (true, fun _ => IsV (.pointer (some ⟨q, 0, none⟩))),
   (true, fun _ => IsV (.pointer (some ⟨q, 2, none⟩))),
   (true, fun _ => IsV (.slice a n c)),
   (true, fun _ => IsV (.int .i64 (j : Int))),
   (true, fun _ => IsV (.slice (dropA a c j 2) (n - j) (c - j))),
   (false, RelK (fun u v W => OwnT 57 2 B0 (j + 1 + (n - j)) ((L.take j).flatMap c2U ++ [.int .i64 (s : Int), u] ++ (L.drop j).flatMap c2U) v W ∧ OwnT 5 1 B0 n1 (bs.map (Value.int .u8)) u W) 12),
   (true, fun _ => IsV (.pointer (some ⟨q, 0, none⟩))),
   (true, fun _ => IsV (.pointer (some ⟨q, 2, none⟩)))]
def ky_r8_1_D : List (List Nat) := [[], [], [], [2], [3], [4], [], [5, 6], [1, 7], [], [], [], [10, 11], [9, 12], [12, 13], [8, 12, 14], [], [16], [17], [18], [], [19, 20], [12, 15, 21], [0], [23]]
def ky_r8_1_C : List Nat := [1000, 8, 1000, 1000, 1000, 1000, 1000, 1000, 15, 1000, 12, 1000, 1000, 14, 15, 22, 1000, 1000, 1000, 1000, 1000, 1000, 1000, 1000, 1000]

set_option maxHeartbeats 32000000 in
theorem rktake_any (w : World) (q : Nat) (a : Option Addr) (n c M N : Nat) (L : List Ud) (f : Hld) (h : RK w q a n c M N L) (hhl : HL f L) (hsup : ∀ s, f s ≠ none → N ≤ s ∧ s < N + M) (hNb : N ≤ 1000000000000) (s : Nat) (hs1 : N ≤ s) (hs2 : s < N + M) (hf : f s = none) (a1 : Option Addr) (n1 c1 : Nat) (bs : List Int) (hbn : bs.length = n1) (hrb : Rd w 1 (.slice a1 n1 c1) n1 (bs.map (Value.int .u8))) (hnb : n1 ≤ 100000) :
    Calls Try.prog 10 #[.pointer (some ⟨q, 0, none⟩), .int .i64 (s : Int), .slice a1 n1 c1] w (RTakeP q M N (putH f s bs) w) := by
  obtain ⟨iU, hiU, hzU, hsU, hbU⟩ := info_parts RK.infoU
  obtain ⟨i8, hi8, hz8, hs8, hb8⟩ := info_parts RK.info8
  obtain ⟨iB, hiB, hzB, hsB, hbB⟩ := info_parts Tk.infoB
  have HT := Lib.hid h
  have HHL := Lib.hid hhl
  have HSUP := Lib.hid hsup
  have HF := Lib.hid hf
  have HBN := Lib.hid hbn
  have HRB := Lib.hid hrb
  have hlen := h.len
  have d0 := h.blk.cell 0 rfl
  have d1 := h.blk.cell 1 rfl
  have d2 := h.blk.cell 2 rfl
  have hW := h.w0
  have hW6 := h.w16
  have hn16 : n ≤ 16 := by have h1 := hhl.len hsup; have h2 := h.len; omega
  have hqlt := h.blk.lt
  clear h hhl hsup hf hbn hrb
  obtain ⟨t, ht⟩ := Int.eq_ofNat_of_zero_le (show 0 ≤ (s : Int) - (N : Int) by omega)
  have z0 : decide ((s : Int) < (N : Int)) = false := by simp; omega
  have z0b : decide (s < N) = false := by simp; omega
  have z1 : decide ((M : Int) ≤ (t : Int)) = false := by simp; omega
  have z2 : decide (M ≤ t) = false := by simp; omega
  have hsb : s ≤ 2000000000000 := by omega
  go_enter Try.func10, Try.ntmps10
  go_wp2_with fail
  go_quiet (fail)
  obtain ⟨wA, hwA⟩ : ∃ x, World.drewN w nq = x := ⟨_, rfl⟩
  have HMA := Lib.hid (show Mod (fun _ => False) w wA by rw [← hwA]; exact Mod.drewN _ _ _)
  have hta := HT.out.later HMA.out
  have hba := HRB.out.keep HMA.out (fun _ _ e => e)
  rw [hwA]
  clear hwA d0 d1 d2 ht z0 z0b z1 z2
  have HS : Hid (Ev (Mod (fun _ => False) wA) wA) := Lib.hid (Ev.mod wA)
  replace HS := Lib.hid ((Ev.rk hta).and HS.out)
  replace HS := Lib.hid ((Ev.rd hba).and HS.out)
  replace HS := Lib.hid ((Ev.blk hta.blk).and HS.out)
  clear hta hba
  have hbq := (HS.out.now).1
  have qq_0 := hbq.cell 0 rfl
  have qq_1 := hbq.cell 1 rfl
  have qq_2 := hbq.cell 2 rfl
  have lq := hbq.lt
  clear hbq
  go_wp2_with fail
  go_loopw [8] (fun v wr => ∃ j : Nat, v = .int .i64 j ∧ j ≤ n ∧ (∀ y ∈ L.take j, y.seq < s) ∧ wA = wr) (fun v _ => n - (intOf v).toNat)
  case atStart => exact ⟨0, rfl, Nat.zero_le _, fun y hy => (by simp at hy), rfl⟩
  case round =>
    obtain ⟨j, rfl, hj, hall, rfl⟩ := hrel
    have HALL := Lib.hid hall
    clear hall
    by_cases hc : ∃ hjl : j < L.length, L[j].seq < s
    case pos =>
      obtain ⟨hjl, hlt⟩ := hc
      have hjn : j < n := by omega
      have y0 : decide ((j : Int) < (n : Int)) = true := by simp; omega
      have y1 : decide (j < n) = true := by simpa using hjn
      have hrd := ((HS.out.now).2.2.1).rd
      obtain ⟨eb, eo, hpl, e0, _⟩ := rd2u hrd j hjl
      have hix := fun wx => run_indexS (P := Try.prog) wx 37 57 iU 2 Try.underlying37 hiU hsU a n c j hjn (hrd.some_ (by omega))
      rw [hpl] at hix
      obtain ⟨x, hx⟩ : ∃ x, L[j].seq = x := ⟨_, rfl⟩
      have hsn : ∀ y ∈ L.take (j + 1), y.seq < s := fun y hy => by rw [List.take_succ_eq_append_getElem hjl, List.mem_append, List.mem_singleton] at hy; exact hy.elim (fun h => HALL.out y h) (fun h => by rw [h]; exact hlt)
      have HSN := Lib.hid hsn
      rw [hx] at e0 hlt
      have y2 : decide ((x : Int) < (s : Int)) = true := by simpa using hlt
      have y3 : decide (x < s) = true := by simpa using hlt
      clear hx hpl hrd hsn hlt
      go_wp2_with fail
      go_roundw
      case rel => exact ⟨j + 1, by go_num, hjn, HSN.out, trivial⟩
      case measure => simp [intOf]; omega
    case neg =>
      have HC := Lib.hid hc
      clear hc
      have hgt : ∀ y ∈ L.drop j, s < y.seq := fun y hy => by
        obtain ⟨k, hk, rfl⟩ := List.mem_iff_getElem.1 hy
        rw [List.getElem_drop]
        have hkl : j + k < L.length := by simp at hk; omega
        have hj0 : j < L.length := by omega
        have h1 : ¬ L[j].seq < s := fun x => HC.out ⟨hj0, x⟩
        have h2 := HHL.out.ne HF.out _ (List.getElem_mem hj0)
        rcases Nat.eq_zero_or_pos k with rfl | hk0
        · simp only [Nat.add_zero]; omega
        · have h3 := List.pairwise_iff_getElem.1 HHL.out.1 j (j + k) (by simpa using hj0) (by simpa using hkl) (by omega)
          rw [List.getElem_map, List.getElem_map] at h3
          omega
      have HGT := Lib.hid hgt
      clear hgt
      have hgd : (decide ((j : Int) < (n : Int)) = false) ∨ (∃ hjl : j < L.length, s < L[j].seq) := by
        by_cases h : j < L.length
        · exact .inr ⟨h, HGT.out _ (List.mem_iff_getElem.2 ⟨0, by simp; omega, by rw [List.getElem_drop]; simp⟩)⟩
        · exact .inl (by simp; omega)
      have hnc : n ≤ c := by obtain ⟨_, _, _, h1, h2, _⟩ := HT.out.rd; cases h1; exact h2
      have HTK := Lib.hid (fun wx => run_takeS (P := Try.prog) wx 37 57 iU Try.underlying37 hiU a n c j (by omega))
      have HDK := Lib.hid (fun wx => run_dropS (P := Try.prog) wx 37 57 iU 2 Try.underlying37 hiU hsU a n c j hj)
      have hrt2 := ((HS.out.now).2.2.1).rd.take (n := j) hj
      have hrd2 := ((HS.out.now).2.2.1).rd.drop (n := j) hj
      rw [c2U_take] at hrt2
      rw [c2U_drop] at hrd2
      replace HS := Lib.hid ((Ev.rd hrt2).and HS.out)
      replace HS := Lib.hid ((Ev.rd hrd2).and HS.out)
      clear hrt2 hrd2
      have HONE : Hid ((∀ u ∈ (L.take j).flatMap c2U, u.oneCell' = true) ∧ (∀ u ∈ (L.drop j).flatMap c2U, u.oneCell' = true)) := Lib.hid ⟨c2U_one (w := w) (fun e he => HT.out.bodies e (List.mem_of_mem_take he)), c2U_one (w := w) (fun e he => HT.out.bodies e (List.mem_of_mem_drop he))⟩
      clear qq_0 qq_1 qq_2 lq
      have hbq := (HS.out.now).2.2.1
      have qq_0 := hbq.cell 0 rfl
      have qq_1 := hbq.cell 1 rfl
      have qq_2 := hbq.cell 2 rfl
      have lq := hbq.lt
      clear hbq
      rcases hgd with z0 | ⟨hjl, hge⟩
      · skip
        have z1 : decide (j < n) = false := by have := z0; simp at this; simp; omega
        obtain ⟨B0, hB0⟩ : ∃ n, wA.heap.size = n := ⟨_, rfl⟩
        have HB0 := Lib.hid hB0
        clear hB0
        have HOLD : Hid (∀ W, Mod (fun k => B0 ≤ k) (World.drew wA) W → Mod (fun _ => False) (World.drew wA) W) := Lib.hid fun W h => h.mono (fun i hi e => by have := HB0.out; simp at hi; omega)
        go_upto_region 8 with fail
        clear qq_0 qq_1 qq_2 lq
        have HSd := Lib.hid HS.out.drew
        have HST : ∀ (ix : Nat) (vs : Nat → Value) (vx : Value) (wx wy : World), factP (ky_r8_0_F q n c n1 c1 s j B0 a a1 bs L) ix vs vx wx → Mod (fun _ => False) wx wy → factP (ky_r8_0_F q n c n1 c1 s j B0 a a1 bs L) ix vs vx wy := by
          refine factP_stays ?_
          unfold ky_r8_0_F
          exact stableP_cons (StableP.of (stable_val _)) <| stableP_cons (StableP.of (EmpT.st)) <| stableP_cons (StableP.of (stable_val _)) <| stableP_cons (StableP.of (stable_val _)) <| stableP_cons (StableP.of (stable_val _)) <| stableP_cons (StableP.of (stable_val _)) <| stableP_cons (StableP.of (stable_val _)) <| stableP_cons (StableP.of (stable_val _)) <| stableP_cons (StableP.of (OwnT.st)) <| stableP_cons (StableP.of (stable_val _)) <| stableP_cons (StableP.of (EmpT.st)) <| stableP_cons (StableP.of (stable_val _)) <| stableP_cons (StableP.of (OwnT.st)) <| stableP_cons (RelK.st (fun _ _ _ _ h _ => h)) <| stableP_cons (RelK.st (fun _ => LitT.st)) <| stableP_cons (RelK.st (fun _ => OwnT.st)) <| stableP_cons (StableP.of (stable_val _)) <| stableP_cons (StableP.of (stable_val _)) <| stableP_cons (StableP.of (stable_val _)) <| stableP_cons (StableP.of (stable_val _)) <| stableP_cons (StableP.of (stable_val _)) <| stableP_cons (StableP.of (stable_val _)) <| stableP_cons (RelK.st (fun _ v w w' h m => ⟨OwnT.st v w w' h.1 m, OwnT.st _ w w' h.2 m⟩)) <| stableP_cons (StableP.of (stable_val _)) <| stableP_cons (StableP.of (stable_val _)) <| stableP_nil
        have HSO : ∀ px ∈ (ky_r8_0_F q n c n1 c1 s j B0 a a1 bs L), px.1 = true → ∀ (vs : Nat → Value) (vx : Value) (wx wy : World), px.2 vs vx wx → px.2 vs vx wy := by
          unfold ky_r8_0_F
          exact solidP_cons (solid_val _) <| solidP_cons (fun h => by cases h) <| solidP_cons (solid_val _) <| solidP_cons (solid_val _) <| solidP_cons (solid_val _) <| solidP_cons (solid_val _) <| solidP_cons (solid_val _) <| solidP_cons (solid_val _) <| solidP_cons (fun h => by cases h) <| solidP_cons (solid_val _) <| solidP_cons (fun h => by cases h) <| solidP_cons (solid_val _) <| solidP_cons (fun h => by cases h) <| solidP_cons (fun h => by cases h) <| solidP_cons (fun h => by cases h) <| solidP_cons (fun h => by cases h) <| solidP_cons (solid_val _) <| solidP_cons (solid_val _) <| solidP_cons (solid_val _) <| solidP_cons (solid_val _) <| solidP_cons (solid_val _) <| solidP_cons (solid_val _) <| solidP_cons (fun h => by cases h) <| solidP_cons (solid_val _) <| solidP_cons (solid_val _) <| solidP_nil
        have HLO : LocL (fun i => ky_r8_0_D.getD i []) 0 (ky_r8_0_F q n c n1 c1 s j B0 a a1 bs L) := by
          unfold ky_r8_0_F
          exact loc_cons (loc_own _) <| loc_cons (loc_own _) <| loc_cons (loc_own _) <| loc_cons (loc_own _) <| loc_cons (loc_own _) <| loc_cons (loc_own _) <| loc_cons (loc_own _) <| loc_cons (loc_own _) <| loc_cons (loc_own _) <| loc_cons (loc_own _) <| loc_cons (loc_own _) <| loc_cons (loc_own _) <| loc_cons (loc_own _) <| loc_cons (RelK.loc (by decide)) <| loc_cons (RelK.loc (by decide)) <| loc_cons (RelK.loc (by decide)) <| loc_cons (loc_own _) <| loc_cons (loc_own _) <| loc_cons (loc_own _) <| loc_cons (loc_own _) <| loc_cons (loc_own _) <| loc_cons (loc_own _) <| loc_cons (RelK.loc (by decide)) <| loc_cons (loc_own _) <| loc_cons (loc_own _) <| loc_nil
        refine wp_region_pair (act := ?actky_r8_0) (Mod (fun k => B0 ≤ k)) (factP (ky_r8_0_F q n c n1 c1 s j B0 a a1 bs L)) (fun i => ky_r8_0_C.getD i 1000) (fun i => ky_r8_0_D.getD i []) 25 _ rfl rfl (by kernel_rfl) (by kernel_rfl) (by kernel_rfl) (by kernel_rfl) (by kernel_rfl) (fun _ => Mod.refl _ _)
          (fun _ _ _ h k => h.trans k (fun _ _ e => e) (fun _ _ e => e)) ?hactky_r8_0 (loc_of HLO) ?_ ?_
        case hactky_r8_0 => intro vs; simp only [putAll, Nat.zero_add, Nat.reduceAdd, Act.put, List.setIfInBounds_toArray, List.set_cons_succ, List.set_cons_zero]; exact rfl
        · refine opsOkP_cons ?_ ?_
          · intro K vs W hR hD hN hK
            clear hD
            clear hN
            try dsimp only at hK ⊢
            simp only [Act.put, List.setIfInBounds_toArray, List.set_cons_succ, List.set_cons_zero] at hK
            go_wp2
            exact hK _ _ rfl (fun _ _ h => h) (Mod.refl _ _)
          refine opsOkP_cons ?_ ?_
          · intro K vs W hR hD hN hK
            clear hD
            clear hN
            try dsimp only at hK ⊢
            simp only [Act.put, List.setIfInBounds_toArray, List.set_cons_succ, List.set_cons_zero] at hK
            have hz := (show B0 ≤ W.heap.size from (by have h1 := HB0.out; have h2 := hR.size; simp at h2; omega))
            go_wp2
            exact hK _ _ ⟨_, rfl, Own.rebase (own_empty W 57 2 W.heap.size rfl) (low_lit hz)⟩ (fun j _ h => HST j vs _ _ _ h (Mod.alloc _ _ _)) (Mod.alloc _ _ _)
          refine opsOkP_cons ?_ ?_
          · intro K vs W hR hD hN hK
            clear hD
            clear hN
            try dsimp only at hK ⊢
            simp only [Act.put, List.setIfInBounds_toArray, List.set_cons_succ, List.set_cons_zero] at hK
            go_wp2
            exact hK _ _ rfl (fun _ _ h => h) (Mod.refl _ _)
          refine opsOkP_cons ?_ ?_
          · intro K vs W hR hD hN hK
            have dq2 : vs 2 = .pointer (some ⟨q, 0, none⟩) := hD 2 (by decide)
            clear hD
            clear hN
            try dsimp only at hK ⊢
            simp only [Act.put, List.setIfInBounds_toArray, List.set_cons_succ, List.set_cons_zero] at hK
            generalize vs 2 = vq2 at hK dq2 ⊢
            subst vq2
            go_wp2
            exact hK _ _ rfl (fun _ _ h => h) (Mod.refl _ _)
          refine opsOkP_cons ?_ ?_
          · intro K vs W hR hD hN hK
            have dq3 : vs 3 = .pointer (some ⟨q, 0, none⟩) := hD 3 (by decide)
            clear hD
            clear hN
            try dsimp only at hK ⊢
            simp only [Act.put, List.setIfInBounds_toArray, List.set_cons_succ, List.set_cons_zero] at hK
            generalize vs 3 = vq3 at hK dq3 ⊢
            subst vq3
            go_wp2
            exact hK _ _ rfl (fun _ _ h => h) (Mod.refl _ _)
          refine opsOkP_cons ?_ ?_
          · intro K vs W hR hD hN hK
            have dq4 : vs 4 = .pointer (some ⟨q, 2, none⟩) := hD 4 (by decide)
            clear hD
            clear hN
            try dsimp only at hK ⊢
            simp only [Act.put, List.setIfInBounds_toArray, List.set_cons_succ, List.set_cons_zero] at hK
            generalize vs 4 = vq4 at hK dq4 ⊢
            subst vq4
            have q0 := ((HSd.out.at (HOLD.out W hR)).2.2.1).cell 2 rfl
            go_wp2
            exact hK _ _ rfl (fun _ _ h => h) (Mod.refl _ _)
          refine opsOkP_cons ?_ ?_
          · intro K vs W hR hD hN hK
            clear hD
            clear hN
            try dsimp only at hK ⊢
            simp only [Act.put, List.setIfInBounds_toArray, List.set_cons_succ, List.set_cons_zero] at hK
            go_wp2
            exact hK _ _ rfl (fun _ _ h => h) (Mod.refl _ _)
          refine opsOkP_cons ?_ ?_
          · intro K vs W hR hD hN hK
            have dq5 : vs 5 = .slice a n c := hD 5 (by decide)
            have dq6 : vs 6 = .int .i64 (j : Int) := hD 6 (by decide)
            clear hD
            clear hN
            try dsimp only at hK ⊢
            simp only [Act.put, List.setIfInBounds_toArray, List.set_cons_succ, List.set_cons_zero] at hK
            generalize vs 5 = vq5 at hK dq5 ⊢
            subst vq5
            generalize vs 6 = vq6 at hK dq6 ⊢
            subst vq6
            have htk := HTK.out
            go_wp2_with fail
            exact hK _ _ rfl (fun _ _ h => h) (Mod.refl _ _)
          refine opsOkP_cons ?_ ?_
          · intro K vs W hR hD hN hK
            have dq1 : (EmpT 57 2 B0) (vs 1) W := hD 1 (by decide)
            have dq7 : vs 7 = .slice a j c := hD 7 (by decide)
            clear hD
            clear hN
            try dsimp only at hK ⊢
            simp only [Act.put, List.setIfInBounds_toArray, List.set_cons_succ, List.set_cons_zero] at hK
            generalize vs 1 = vq1 at hK dq1 ⊢
            generalize vs 7 = vq7 at hK dq7 ⊢
            subst vq7
            have hz := (show B0 ≤ W.heap.size from (by have h1 := HB0.out; have h2 := hR.size; simp at h2; omega))
            have hrd := (HSd.out.at (HOLD.out W hR)).2.1
            obtain ⟨ae, rfl, ho⟩ := dq1
            go_wp2_with (at_builtin; refine wpList_append_any rfl (.tmp 70) (.tmp 76) 37 rfl 57 iU (.agg #[.int .i64 0, .slice none 0 0]) 2 32 Try.underlying37 hiU hzU hsU hbU rfl (by decide) _ (0) ([]) rfl (Own.base ho (Nat.zero_le _)) _ (j) ((L.take j).flatMap c2U) rfl hrd HONE.out.1 (by unfold maxLen; omega) (by omega) ?_; intro v' w' hap)
            obtain ⟨a4, c4, rfl⟩ := hap.form
            have ho4 := hap.own
            have lo4 := hap.low hz (fun k hk => (ho.lt k hk).1)
            have hm4 := hap.still ae 0 0 rfl (by omega)
            simp only [Nat.zero_add, List.nil_append] at ho4 lo4 ⊢
            exact hK _ _ ⟨a4, c4, rfl, Own.rebase ho4 lo4⟩ (fun j _ h => HST j vs _ _ _ h hm4) (hm4.mono (fun _ _ e => e.elim))
          refine opsOkP_cons ?_ ?_
          · intro K vs W hR hD hN hK
            clear hD
            clear hN
            try dsimp only at hK ⊢
            simp only [Act.put, List.setIfInBounds_toArray, List.set_cons_succ, List.set_cons_zero] at hK
            go_wp2
            exact hK _ _ rfl (fun _ _ h => h) (Mod.refl _ _)
          refine opsOkP_cons ?_ ?_
          · intro K vs W hR hD hN hK
            clear hD
            clear hN
            try dsimp only at hK ⊢
            simp only [Act.put, List.setIfInBounds_toArray, List.set_cons_succ, List.set_cons_zero] at hK
            have hz := (show B0 ≤ W.heap.size from (by have h1 := HB0.out; have h2 := hR.size; simp at h2; omega))
            go_wp2
            exact hK _ _ ⟨_, rfl, Own.rebase (own_empty W 5 1 W.heap.size rfl) (low_lit hz)⟩ (fun j _ h => HST j vs _ _ _ h (Mod.alloc _ _ _)) (Mod.alloc _ _ _)
          refine opsOkP_cons ?_ ?_
          · intro K vs W hR hD hN hK
            clear hD
            clear hN
            try dsimp only at hK ⊢
            simp only [Act.put, List.setIfInBounds_toArray, List.set_cons_succ, List.set_cons_zero] at hK
            go_wp2
            exact hK _ _ rfl (fun _ _ h => h) (Mod.refl _ _)
          refine opsOkP_cons ?_ ?_
          · intro K vs W hR hD hN hK
            have dq10 : (EmpT 5 1 B0) (vs 10) W := hD 10 (by decide)
            have dq11 : vs 11 = .slice a1 n1 c1 := hD 11 (by decide)
            clear hD
            clear hN
            try dsimp only at hK ⊢
            simp only [Act.put, List.setIfInBounds_toArray, List.set_cons_succ, List.set_cons_zero] at hK
            generalize vs 10 = vq10 at hK dq10 ⊢
            generalize vs 11 = vq11 at hK dq11 ⊢
            subst vq11
            have hz := (show B0 ≤ W.heap.size from (by have h1 := HB0.out; have h2 := hR.size; simp at h2; omega))
            have hrd := (HSd.out.at (HOLD.out W hR)).2.2.2.1
            obtain ⟨ae, rfl, ho⟩ := dq10
            go_wp2_with (at_builtin; refine wpList_append_any rfl (.tmp 79) (.tmp 80) 23 rfl 5 i8 (.int .u8 0) 1 1 Try.underlying23 hi8 hz8 hs8 hb8 rfl (by decide) _ (0) ([]) rfl (Own.base ho (Nat.zero_le _)) _ (n1) (bs.map (Value.int .u8)) rfl hrd (by intro u hu; obtain ⟨_, _, rfl⟩ := List.mem_map.1 hu; rfl) (by unfold maxLen; omega) (by omega) ?_; intro v' w' hap)
            obtain ⟨a4, c4, rfl⟩ := hap.form
            have ho4 := hap.own
            have lo4 := hap.low hz (fun k hk => (ho.lt k hk).1)
            have hm4 := hap.still ae 0 0 rfl (by omega)
            simp only [Nat.zero_add, List.nil_append] at ho4 lo4 ⊢
            exact hK _ _ ⟨a4, c4, rfl, Own.rebase ho4 lo4⟩ (fun j _ h => HST j vs _ _ _ h hm4) (hm4.mono (fun _ _ e => e.elim))
          refine opsOkP_cons ?_ ?_
          · intro K vs W hR hD hN hK
            have dq9 : vs 9 = .int .i64 (s : Int) := hD 9 (by decide)
            have dq12 : (OwnT 5 1 B0 (n1) (bs.map (Value.int .u8))) (vs 12) W := hD 12 (by decide)
            clear hD
            clear hN
            try dsimp only at hK ⊢
            simp only [Act.put, List.setIfInBounds_toArray, List.set_cons_succ, List.set_cons_zero] at hK
            generalize vs 9 = vq9 at hK dq9 ⊢
            subst vq9
            obtain ⟨ab, cb, hvb, hob⟩ := dq12
            rw [hvb] at hK ⊢
            go_wp2
            exact hK _ _ ⟨by rw [hvb]⟩ (fun _ _ h => h) (Mod.refl _ _)
          refine opsOkP_cons ?_ ?_
          · intro K vs W hR hD hN hK
            have dq12 : (OwnT 5 1 B0 (n1) (bs.map (Value.int .u8))) (vs 12) W := hD 12 (by decide)
            have dq13 : (RelK (fun u v _ => v = .agg #[.int .i64 (s : Int), u]) 12) vs (vs 13) W := hD 13 (by decide)
            clear hD
            clear hN
            try dsimp only at hK ⊢
            simp only [Act.put, List.setIfInBounds_toArray, List.set_cons_succ, List.set_cons_zero] at hK
            generalize vs 13 = vq13 at hK dq13 ⊢
            obtain ⟨ab, cb, hvb, hob⟩ := dq12
            have hq13 : vq13 = .agg #[.int .i64 (s : Int), .slice ab n1 cb] := by have h : vq13 = .agg #[.int .i64 (s : Int), vs 12] := dq13.out; rw [h, hvb]
            subst hq13
            go_wp2
            exact hK _ _ ⟨_, rfl, by rw [hvb]; exact Rd.litN _ 2 _ _ _ 1 rfl rfl (by decide)⟩ (fun j _ h => HST j vs _ _ _ h (Mod.alloc _ _ _)) (Mod.alloc _ _ _)
          refine opsOkP_cons ?_ ?_
          · intro K vs W hR hD hN hK
            have dq8 : (OwnT 57 2 B0 (j) ((L.take j).flatMap c2U)) (vs 8) W := hD 8 (by decide)
            have dq12 : (OwnT 5 1 B0 (n1) (bs.map (Value.int .u8))) (vs 12) W := hD 12 (by decide)
            have dq14 : (RelK (fun u => LitT 2 [.int .i64 (s : Int), u]) 12) vs (vs 14) W := hD 14 (by decide)
            clear hD
            clear hN
            try dsimp only at hK ⊢
            simp only [Act.put, List.setIfInBounds_toArray, List.set_cons_succ, List.set_cons_zero] at hK
            generalize vs 8 = vq8 at hK dq8 ⊢
            generalize vs 14 = vq14 at hK dq14 ⊢
            have hz := (show B0 ≤ W.heap.size from (by have h1 := HB0.out; have h2 := hR.size; simp at h2; omega))
            obtain ⟨ae, ce, rfl, ho⟩ := dq8
            obtain ⟨pl, rfl, hl⟩ := dq14
            obtain ⟨ab, cb, hvb, hob⟩ := dq12
            go_wp2_with (at_builtin; refine wpList_append_any rfl (.tmp 77) (.tmp 83) 37 rfl 57 iU (.agg #[.int .i64 0, .slice none 0 0]) 2 32 Try.underlying37 hiU hzU hsU hbU rfl (by decide) _ (j) ((L.take j).flatMap c2U) rfl (Own.base ho (Nat.zero_le _)) _ (1) ([.int .i64 (s : Int), vs 12]) rfl hl (by intro u hu; simp at hu; exact hu.elim (fun h => by rw [h]; rfl) (fun h => by rw [h, hvb]; rfl)) (by unfold maxLen; omega) (by omega) ?_; intro v' w' hap)
            obtain ⟨a4, c4, rfl⟩ := hap.form
            have ho4 := hap.own
            have lo4 := hap.low hz (fun k hk => (ho.lt k hk).1)
            exact hK _ _ ⟨a4, c4, rfl, Own.rebase ho4 lo4⟩ (factP_solid HSO [12] 15 (by kernel_rfl) (all_one (fun h => ownT_keep h hap.mod (fun q h1 h2 => own_types ho hob (by decide) q h2 h1)))) (hap.mod.mono (fun k _ e => (ho.lt k e).1))
          refine opsOkP_cons ?_ ?_
          · intro K vs W hR hD hN hK
            clear hD
            clear hN
            try dsimp only at hK ⊢
            simp only [Act.put, List.setIfInBounds_toArray, List.set_cons_succ, List.set_cons_zero] at hK
            go_wp2
            exact hK _ _ rfl (fun _ _ h => h) (Mod.refl _ _)
          refine opsOkP_cons ?_ ?_
          · intro K vs W hR hD hN hK
            have dq16 : vs 16 = .pointer (some ⟨q, 0, none⟩) := hD 16 (by decide)
            clear hD
            clear hN
            try dsimp only at hK ⊢
            simp only [Act.put, List.setIfInBounds_toArray, List.set_cons_succ, List.set_cons_zero] at hK
            generalize vs 16 = vq16 at hK dq16 ⊢
            subst vq16
            go_wp2
            exact hK _ _ rfl (fun _ _ h => h) (Mod.refl _ _)
          refine opsOkP_cons ?_ ?_
          · intro K vs W hR hD hN hK
            have dq17 : vs 17 = .pointer (some ⟨q, 0, none⟩) := hD 17 (by decide)
            clear hD
            clear hN
            try dsimp only at hK ⊢
            simp only [Act.put, List.setIfInBounds_toArray, List.set_cons_succ, List.set_cons_zero] at hK
            generalize vs 17 = vq17 at hK dq17 ⊢
            subst vq17
            go_wp2
            exact hK _ _ rfl (fun _ _ h => h) (Mod.refl _ _)
          refine opsOkP_cons ?_ ?_
          · intro K vs W hR hD hN hK
            have dq18 : vs 18 = .pointer (some ⟨q, 2, none⟩) := hD 18 (by decide)
            clear hD
            clear hN
            try dsimp only at hK ⊢
            simp only [Act.put, List.setIfInBounds_toArray, List.set_cons_succ, List.set_cons_zero] at hK
            generalize vs 18 = vq18 at hK dq18 ⊢
            subst vq18
            have q0 := ((HSd.out.at (HOLD.out W hR)).2.2.1).cell 2 rfl
            go_wp2
            exact hK _ _ rfl (fun _ _ h => h) (Mod.refl _ _)
          refine opsOkP_cons ?_ ?_
          · intro K vs W hR hD hN hK
            clear hD
            clear hN
            try dsimp only at hK ⊢
            simp only [Act.put, List.setIfInBounds_toArray, List.set_cons_succ, List.set_cons_zero] at hK
            go_wp2
            exact hK _ _ rfl (fun _ _ h => h) (Mod.refl _ _)
          refine opsOkP_cons ?_ ?_
          · intro K vs W hR hD hN hK
            have dq19 : vs 19 = .slice a n c := hD 19 (by decide)
            have dq20 : vs 20 = .int .i64 (j : Int) := hD 20 (by decide)
            clear hD
            clear hN
            try dsimp only at hK ⊢
            simp only [Act.put, List.setIfInBounds_toArray, List.set_cons_succ, List.set_cons_zero] at hK
            generalize vs 19 = vq19 at hK dq19 ⊢
            subst vq19
            generalize vs 20 = vq20 at hK dq20 ⊢
            subst vq20
            have hdk := HDK.out
            go_wp2_with fail
            exact hK _ _ rfl (fun _ _ h => h) (Mod.refl _ _)
          refine opsOkP_cons ?_ ?_
          · intro K vs W hR hD hN hK
            have dq12 : (OwnT 5 1 B0 (n1) (bs.map (Value.int .u8))) (vs 12) W := hD 12 (by decide)
            have dq15 : (RelK (fun u => OwnT 57 2 B0 (j + 1) ((L.take j).flatMap c2U ++ [.int .i64 (s : Int), u])) 12) vs (vs 15) W := hD 15 (by decide)
            have dq21 : vs 21 = .slice (dropA a c j 2) (n - j) (c - j) := hD 21 (by decide)
            clear hD
            clear hN
            try dsimp only at hK ⊢
            simp only [Act.put, List.setIfInBounds_toArray, List.set_cons_succ, List.set_cons_zero] at hK
            generalize vs 15 = vq15 at hK dq15 ⊢
            generalize vs 21 = vq21 at hK dq21 ⊢
            subst vq21
            have hz := (show B0 ≤ W.heap.size from (by have h1 := HB0.out; have h2 := hR.size; simp at h2; omega))
            have hrd := (HSd.out.at (HOLD.out W hR)).1
            obtain ⟨ae, ce, rfl, ho⟩ := dq15
            obtain ⟨ab, cb, hvb, hob⟩ := dq12
            go_wp2_with (at_builtin; refine wpList_append_any rfl (.tmp 84) (.tmp 90) 37 rfl 57 iU (.agg #[.int .i64 0, .slice none 0 0]) 2 32 Try.underlying37 hiU hzU hsU hbU rfl (by decide) _ (j + 1) ((L.take j).flatMap c2U ++ [.int .i64 (s : Int), vs 12]) rfl (Own.base ho (Nat.zero_le _)) _ ((n - j)) ((L.drop j).flatMap c2U) rfl hrd HONE.out.2 (by unfold maxLen; omega) (by omega) ?_; intro v' w' hap)
            obtain ⟨a4, c4, rfl⟩ := hap.form
            have ho4 := hap.own
            have lo4 := hap.low hz (fun k hk => (ho.lt k hk).1)
            exact hK _ _ ⟨⟨a4, c4, rfl, Own.rebase ho4 lo4⟩, ab, cb, hvb, Own.keep hob hap.mod (fun q h1 h2 => own_types ho hob (by decide) q h2 h1)⟩ (factP_solid HSO [12] 22 (by kernel_rfl) (all_one (fun h => ownT_keep h hap.mod (fun q h1 h2 => own_types ho hob (by decide) q h2 h1)))) (hap.mod.mono (fun k _ e => (ho.lt k e).1))
          refine opsOkP_cons ?_ ?_
          · intro K vs W hR hD hN hK
            have dq0 : vs 0 = .pointer (some ⟨q, 0, none⟩) := hD 0 (by decide)
            clear hD
            clear hN
            try dsimp only at hK ⊢
            simp only [Act.put, List.setIfInBounds_toArray, List.set_cons_succ, List.set_cons_zero] at hK
            generalize vs 0 = vq0 at hK dq0 ⊢
            subst vq0
            go_wp2
            exact hK _ _ rfl (fun _ _ h => h) (Mod.refl _ _)
          refine opsOkP_cons ?_ ?_
          · intro K vs W hR hD hN hK
            have dq23 : vs 23 = .pointer (some ⟨q, 0, none⟩) := hD 23 (by decide)
            clear hD
            clear hN
            try dsimp only at hK ⊢
            simp only [Act.put, List.setIfInBounds_toArray, List.set_cons_succ, List.set_cons_zero] at hK
            generalize vs 23 = vq23 at hK dq23 ⊢
            subst vq23
            go_wp2
            exact hK _ _ rfl (fun _ _ h => h) (Mod.refl _ _)
          exact opsOkP_nil
        · intro vs wq1 hR hF
          have dq22 : (RelK (fun u v W => OwnT 57 2 B0 (j + 1 + (n - j)) ((L.take j).flatMap c2U ++ [.int .i64 (s : Int), u] ++ (L.drop j).flatMap c2U) v W ∧ OwnT 5 1 B0 n1 (bs.map (Value.int .u8)) u W) 12) vs (vs 22) wq1 := hF 22 (by decide) (by decide)
          have dq24 : vs 24 = .pointer (some ⟨q, 2, none⟩) := hF 24 (by decide) (by decide)
          clear hF
          try dsimp only
          generalize vs 22 = vq22 at dq22 ⊢
          generalize vs 24 = vq24 at dq24 ⊢
          subst vq24
          have hmw : Mod (fun _ => False) wA wq1 := (Mod.drew _ _).of2 (HOLD.out _ hR)
          replace HS := Lib.hid (HS.out.step hmw)
          clear hmw HSd
          obtain ⟨⟨av, cv, rfl, ho⟩, ab, cb, hvb, hob⟩ := dq22
          have HO := Lib.hid ho
          have HOB := Lib.hid hob
          generalize hv12 : vs 12 = v12 at hvb HO HOB
          subst hvb
          clear ho hob hv12
          obtain ⟨nn, hnn⟩ : ∃ x, j + 1 + (n - j) = x := ⟨_, rfl⟩
          rw [hnn] at HO ⊢
          have hbq := (HS.out.now).2.2.1
          have f2 := hbq.free 2
          have c2_ := hbq.cell 2 rfl
          have hmm := (HS.out.now).2.2.2.2.2
          have hset : Mod (fun k => k = q) wq1 (wq1.setCell ⟨q, 2, none⟩ (.slice av nn cv)) := Mod.setCell _ _ _ rfl
          have hmw := (HMA.out.of2 hmm).trans hset (H := fun k => k = q) (fun _ _ e => e.elim) (fun _ _ e => e)
          have hqB : q < B0 := by have h1 := HB0.out; have h2 := HMA.out.size; omega
          have hL1 : L.take j ++ L.drop j = L := List.take_append_drop j L
          have hhl1 := HHL.out
          rw [← hL1] at hhl1
          have hp1 := HL.put hhl1 (x := ⟨s, bs, .slice ab n1 cb⟩) (fun e he => HALL.out e he) (fun e he => HGT.out e he)
          have hrk : RK (wq1.setCell ⟨q, 2, none⟩ (.slice av nn cv)) q av nn cv M N (L.take j ++ ⟨s, bs, .slice ab n1 cb⟩ :: L.drop j) := by
            refine ⟨hW, hW6, by rw [← hnn, List.length_append, List.length_cons, List.length_take, List.length_drop]; omega, hbq.set 2 _, ?_, fun k hk e => by have h1 := (HO.out.lt k hk).1; omega, fun e he => ?_⟩
            · have h := (Rd.ofOwn HO.out).keep hset (fun k hk e => by have h1 := (HO.out.lt k hk).1; omega)
              rw [List.flatMap_append, List.flatMap_cons]
              simpa [c2U] using h
            · rw [List.mem_append, List.mem_cons] at he
              have hold : ∀ e ∈ L, BodyU (wq1.setCell ⟨q, 2, none⟩ (.slice av nn cv)) e.body e.v := fun e he => (HT.out.bodies e he).keep hmw (fun k _ hk => by rw [hk]; exact HT.out.noB)
              rcases he with he | rfl | he
              · exact hold e (List.mem_of_mem_take he)
              · exact ⟨ab, n1, cb, rfl, HBN.out, (Rd.ofOwn HOB.out).keep hset (fun k hk e => by have h1 := (HOB.out.lt k hk).1; omega)⟩
              · exact hold e (List.mem_of_mem_drop he)
          have hlw : ∀ k, (Value.slice av nn cv).ownBlock = some k → w.heap.size ≤ k := fun k hk => by have h1 := (HO.out.lt k hk).1; have h2 := HB0.out; have h3 := HMA.out.size; omega
          obtain ⟨L1, hLL⟩ : ∃ l, L.take j ++ (⟨s, bs, .slice ab n1 cb⟩ : Ud) :: L.drop j = l := ⟨_, rfl⟩
          rw [hLL] at hp1 hrk
          replace hp1 : HL (putH f s bs) L1 := hp1
          have hs1 := putH_sup (bs := bs) HSUP.out ⟨hs1, hs2⟩
          obtain ⟨g, hg⟩ : ∃ g, putH f s bs = g := ⟨_, rfl⟩
          rw [hg] at hp1 hs1
          have HG := Lib.hid hg
          have HP1 := Lib.hid hp1
          have HRK := Lib.hid hrk
          have HMW := Lib.hid hmw
          have HLW := Lib.hid hlw
          have HGS := Lib.hid hs1
          have HWB : Hid (w.heap.size ≤ B0) := Lib.hid (by have h1 := HB0.out; have h2 := HMA.out.size; omega)
          clear hLL hhl1 hp1 hrk hmw hlw hs1 hg hset hmm hbq hL1 hnn
          go_wp2_with fail
          obtain ⟨wB, hwB⟩ : ∃ x, wq1.setCell ⟨q, 2, none⟩ (.slice av nn cv) = x := ⟨_, rfl⟩
          have HSZ : Hid (wq1.heap.size = wB.heap.size) := Lib.hid (by rw [← hwB]; simp)
          rw [hwB] at HRK HMW ⊢
          have HLV : Hid (∀ k, (Value.slice av nn cv).ownBlock = some k → w.heap.size ≤ k ∧ k < wB.heap.size) := Lib.hid (fun k hk => ⟨HLW.out k hk, by have h1 := (HO.out.lt k hk).2; have h2 := HSZ.out; omega⟩)
          have hqW : q < wB.heap.size := by have h1 := HMW.out.size; omega
          clear hwB f2 c2_
          go_loopw [9] (fun gv wr => ∃ (i : Nat) (ag : Option Addr) (cg : Nat) (us : List Value) (pre : List (List Int)) (a2 : Option Addr) (n2 c2 : Nat) (L2 : List Ud), gv = .slice ag i cg ∧ pre.length = i ∧ i ≤ M ∧ World.ownsRow wr wB.heap.size 23 1 (.slice ag i cg) i us ∧ BodiesU wB pre us ∧ RK0 wr q a2 n2 c2 M (N + i) L2 ∧ (∀ e ∈ L2, BodyU wB e.body e.v) ∧ HL (fromH g (N + i)) L2 ∧ pre ++ runL g (M - i) (N + i) = runL g M N ∧ (∀ k, (Value.slice a2 n2 c2).ownBlock = some k → w.heap.size ≤ k ∧ k < wB.heap.size) ∧ Mod (fun k => k = q) wB wr) (fun gv _ => M - lenS gv)
          case atStart => exact ⟨0, none, 0, [], [], av, nn, cv, L1, rfl, rfl, Nat.zero_le _, World.ownsRow_nil _ _ _ _, BodiesU.nil _, HRK.out.zero, HRK.out.bodies, by rw [Nat.add_zero, fromH_id (fun s h => (HGS.out s h).1)]; exact HP1.out, by simp, HLV.out, Mod.refl _ _⟩
          case round =>
            have HNB := Lib.hid HRK.out.noB
            obtain ⟨i, ag, cg, us, pre, a2, n2, c2, L2, rfl, hpl, hiM, ho, hbu, hrk, hbd, hhl, hpre, hlw, hmr⟩ := hrel
            obtain ⟨wo, hwo⟩ : ∃ x : World, x = wr := ⟨_, rfl⟩
            subst hwo
            have HO2 := Lib.hid ho
            have HBU := Lib.hid hbu
            have HK := Lib.hid hrk
            have HBD := Lib.hid hbd
            have HH := Lib.hid hhl
            have HPR := Lib.hid hpre
            have HL2_ := Lib.hid hlw
            have HMR := Lib.hid hmr
            have HPL := Lib.hid hpl
            have hl2 := hrk.len
            have e0 := hrk.blk.cell 1 rfl
            have e1 := hrk.blk.cell 2 rfl
            clear ho hbu hrk hbd hhl hpre hlw hmr hpl HRK HLW HP1 HLV
            have hdone : (∀ x ∈ L2, x.seq ≠ N + i) → runL g (M - i) (N + i) = [] := fun hx => by
              have h := HH.out.none_ hx
              rw [fromH_at] at h
              exact runL_stop h
            have HDN := Lib.hid hdone
            clear hdone
            cases L2 with
            | nil =>
              obtain rfl : 0 = n2 := hl2
              have HST : Hid (runL g (M - i) (N + i) = []) := Lib.hid (HDN.out (fun x hx => by simp at hx))
              go_wp2_with fail
              go_quiet (fail)
              have hrl : runL g M N = pre := by have h := HPR.out; rw [HST.out, List.append_nil] at h; exact h.symm
              have hmd : Mod (fun _ => False) wo (World.drewN wo nq) := Mod.drewN _ _ _
              have hmf := HMR.out.trans hmd (H := fun k => k = q) (fun _ _ e => e) (fun _ _ e => e.elim)
              have hnb : ∀ k, k < wB.heap.size → k = q → NoB wB k := fun k _ e => by rw [e]; exact HNB.out
              go_wp2_with fail
              go_ret2
              unfold RTakeP
              rw [HG.out, hrl]
              exact ⟨ag, i, cg, us, rfl, HPL.out, Rd.ofOwn (Own.keep HO2.out hmd (fun _ _ e => e)), HBU.out.keep hmf hnb, a2, _, c2, _, (HK.out.later hmd).full (fun e he => (HBD.out e he).keep hmf hnb), HH.out, fun k hk => (HL2_.out k hk).1, HMW.out.trans hmf (fun _ _ e => e) (fun _ _ e => e)⟩
            | cons x L3 =>
              have hx0 := (fromH_some HH.out.head).1
              have hxM := (HGS.out x.seq (by rw [(fromH_some HH.out.head).2]; simp)).2
              obtain ⟨m2, rfl⟩ : ∃ m, n2 = m + 1 := ⟨L3.length, by rw [← hl2]; simp⟩
              obtain ⟨eb, eo, hpl, e2, e3⟩ := rd2u HK.out.rd 0 (by simp)
              have hix : ∀ wx, (Instr.indexAt 37 (.slice a2 (m2 + 1) c2) (.int .i64 0)).run Try.prog wx = .ok (.pointer (some ⟨eb, eo, none⟩)) wx := fun wx => by have h := run_indexS (P := Try.prog) wx 37 57 iU 2 Try.underlying37 hiU hsU a2 (m2 + 1) c2 0 (by omega) (HK.out.rd.some_ (by omega)); rw [hpl] at h; exact h
              replace e2 : wo.cell? ⟨eb, eo, none⟩ = some (.int .i64 (x.seq : Int)) := e2
              replace e3 : wo.cell? ⟨eb, eo + 1, none⟩ = some x.v := e3
              have y0 : decide ((0 : Int) < ((m2 + 1 : Nat) : Int)) = true := decide_eq_true (by omega)
              have y0b : decide ((0 : Int) < (m2 : Int) + 1) = true := decide_eq_true (by omega)
              obtain ⟨xs, hxs⟩ : ∃ k, x.seq = k := ⟨_, rfl⟩
              rw [hxs] at e2 hx0 hxM
              have HXS := Lib.hid hxs
              clear hxs hpl
              by_cases hxe : xs = N + i
              case neg =>
                have y1 : ((xs : Int) == ((N + i : Nat) : Int)) = false := by simp; omega
                have y2 : (xs == N + i) = false := by simpa using hxe
                have y3 : ((xs : Int) == (N : Int) + (i : Int)) = false := by simp; omega
                have HST : Hid (runL g (M - i) (N + i) = []) := Lib.hid (HDN.out (fun y hy => by
                  rcases List.mem_cons.1 hy with rfl | hy
                  · rw [HXS.out]; exact hxe
                  · have h3 := (riseU_split (A := [x]) (Q := L3) HH.out.1).2.2 x (by simp) y hy
                    have h4 := HXS.out
                    omega))
                clear hxe
                go_wp2_with fail
                go_quiet (fail)
                have hrl : runL g M N = pre := by have h := HPR.out; rw [HST.out, List.append_nil] at h; exact h.symm
                have hmd : Mod (fun _ => False) wo (World.drewN wo nq) := Mod.drewN _ _ _
                have hmf := HMR.out.trans hmd (H := fun k => k = q) (fun _ _ e => e) (fun _ _ e => e.elim)
                have hnb : ∀ k, k < wB.heap.size → k = q → NoB wB k := fun k _ e => by rw [e]; exact HNB.out
                go_wp2_with fail
                go_ret2
                unfold RTakeP
                rw [HG.out, hrl]
                exact ⟨ag, i, cg, us, rfl, HPL.out, Rd.ofOwn (Own.keep HO2.out hmd (fun _ _ e => e)), HBU.out.keep hmf hnb, a2, _, c2, _, (HK.out.later hmd).full (fun e he => (HBD.out e he).keep hmf hnb), HH.out, fun k hk => (HL2_.out k hk).1, HMW.out.trans hmf (fun _ _ e => e) (fun _ _ e => e)⟩
              case pos =>
                subst hxe
                obtain ⟨ax, nx, cx, hxv, hxn, hxr⟩ := HBD.out x (by simp)
                rw [hxv] at e3
                have hgx : g (N + i) = some x.body := by have h := (fromH_some HH.out.head).2; rwa [HXS.out] at h
                have hiM2 : i < M := by omega
                have hpop := HH.out.pop
                rw [HXS.out, fromH_succ] at hpop
                have HGX := Lib.hid hgx
                have HPOP := Lib.hid hpop
                have HXV := Lib.hid hxv
                have HXR := Lib.hid hxr
                have HXN := Lib.hid hxn
                have y1 : (((N + i : Nat) : Int) == ((N + i : Nat) : Int)) = true := by simp
                have y2 : (N + i == N + i) = true := by simp
                clear hgx hpop hxv hxr hxn hx0 hxM
                go_wp2_with fail
                go_quiet (fail)
                obtain ⟨wC, hwC⟩ : ∃ x, World.drewN wo nq = x := ⟨_, rfl⟩
                have hmd : Mod (fun _ => False) wo wC := by rw [← hwC]; exact Mod.drewN _ _ _
                rw [hwC]
                have hkC := HK.out.later hmd
                have HKC := Lib.hid hkC
                have HMD := Lib.hid hmd
                have g1 := hkC.blk.cell 1 rfl
                have g2 := hkC.blk.cell 2 rfl
                have e3c := hmd.cell e3 (fun e => e)
                clear hwC e0 e1 e2 e3 hmd hkC
                have hoC := Own.keep HO2.out HMD.out (fun _ _ e => e)
                have HOC := Lib.hid hoC
                clear hoC
                go_upto_region 12 with (at_builtin; refine wpList_append_any rfl (.tmp 114) (.tmp 122) 31 rfl 23 iB (.slice none 0 0) 1 24 Try.underlying31 hiB hzB hsB hbB rfl (by decide) _ i us rfl (World.ownsRow.alloc (Own.base HOC.out (Nat.zero_le _)) _) _ 1 [.slice ax nx cx] rfl (Rd.lit _ _ _ _ 1 rfl rfl (by decide)) (by intro u hu; simp at hu; subst hu; rfl) (by unfold maxLen; omega) (by omega) ?_; intro v4 w4 hap)
                obtain ⟨a4, c4, rfl⟩ := hap.form
                have hB2 : wB.heap.size ≤ wo.heap.size := HMR.out.size
                have ho5 := Own.rebase hap.own (hap.low (B := wB.heap.size) (by have h1 := HMD.out.size; simp; omega) (fun k hk => (HO2.out.lt k hk).1))
                have hm4 : Mod (fun k => (Value.slice ag i cg).ownBlock = some k) wC w4 := (Mod.alloc (fun _ => False) wC _).trans hap.mod (fun _ _ e => e.elim) (fun _ _ e => e)
                have hk4 := HKC.out.keep hm4 (fun e => by have h1 := (HO2.out.lt q e).1; omega) (fun k hk e => by have h1 := (HO2.out.lt k e).1; have h2 := (HL2_.out k hk).2; omega)
                have hmB : Mod (fun k => k = q) wB w4 := (HMR.out.trans HMD.out (H := fun k => k = q) (fun _ _ e => e) (fun _ _ e => e.elim)).trans hm4 (fun _ _ e => e) (fun k hk e => by have h1 := (HO2.out.lt k e).1; omega)
                have HO5 := Lib.hid ho5
                have HK4 := Lib.hid hk4
                have HMB := Lib.hid hmB
                clear hap ho5 hm4 hk4 hmB hB2 g1 g2 e3c
                have g2 := HK4.out.blk.cell 2 rfl
                have p2 := HK4.out.blk.free 2
                have hcm : m2 + 1 ≤ c2 := by obtain ⟨_, _, _, h1, h2, _⟩ := HK4.out.rd; cases h1; exact h2
                have hdk : ∀ wx, (Instr.slice 37 (.slice a2 (m2 + 1) c2) (some (.int .i64 1)) none none).run Try.prog wx = .ok (.slice (dropA a2 c2 1 2) m2 (c2 - 1)) wx := fun wx => run_dropS (P := Try.prog) wx 37 57 iU 2 Try.underlying37 hiU hsU a2 (m2 + 1) c2 1 (by omega)
                go_upto_region 13 with fail
                have hst : Mod (fun k => k = q) w4 (w4.setCell ⟨q, 2, none⟩ (.slice (dropA a2 c2 1 2) m2 (c2 - 1))) := Mod.setCell _ _ _ rfl
                have hb6 := HK4.out.blk.set 2 (.slice (dropA a2 c2 1 2) m2 (c2 - 1))
                obtain ⟨w6, hw6⟩ : ∃ x, w4.setCell ⟨q, 2, none⟩ (.slice (dropA a2 c2 1 2) m2 (c2 - 1)) = x := ⟨_, rfl⟩
                rw [hw6] at hst hb6
                rw [hw6]
                have HST6 := Lib.hid hst
                have HB6 := Lib.hid hb6
                clear hw6 hst hb6 g2 p2 hdk
                have g1 := HB6.out.cell 1 rfl
                have p1 := HB6.out.free 1
                go_wp2_with fail
                have hst7 : Mod (fun k => k = q) w6 (w6.setCell ⟨q, 1, none⟩ (.int .i64 (((N + i : Nat) : Int) + 1))) := Mod.setCell _ _ _ rfl
                have hm7 := HST6.out.trans hst7 (H := fun k => k = q) (fun _ _ e => e) (fun _ _ e => e)
                have hown : ∀ k, (Value.slice (dropA a2 c2 1 2) m2 (c2 - 1)).ownBlock = some k → (Value.slice a2 (m2 + 1) c2).ownBlock = some k := fun k hk => by rw [← hk]; exact (dropA_own a2 c2 1 2 m2 (c2 - 1) (m2 + 1) c2).symm
                have hrd7 := HK4.out.rd.drop (n := 1) (by omega)
                rw [show (1 * 2) = (1 * 2) from rfl, c2U_drop] at hrd7
                replace hrd7 : Rd w4 2 (.slice (dropA a2 c2 1 2) m2 (c2 - 1)) m2 (L3.flatMap c2U) := hrd7
                have hnq : ∀ k, (Value.slice a2 (m2 + 1) c2).ownBlock = some k → k ≠ q := fun k hk e => by have := HK4.out.ne k hk e; omega
                have hk7 : RK0 (w6.setCell ⟨q, 1, none⟩ (.int .i64 (((N + i : Nat) : Int) + 1))) q (dropA a2 c2 1 2) m2 (c2 - 1) M (N + (i + 1)) L3 := ⟨hW, hW6, by simpa using hl2, by have h := HB6.out.set 1 (.int .i64 (((N + i : Nat) : Int) + 1)); rw [show ((N + (i + 1) : Nat) : Int) = ((N + i : Nat) : Int) + 1 by omega]; exact h, hrd7.keep hm7 (fun k hk => hnq k (hown k hk)), fun k hk e => absurd e (hnq k (hown k hk))⟩
                have ho7 := Own.keep HO5.out hm7 (fun k hk e => by have h1 := (HO5.out.lt k hk).1; omega)
                have hpr7 : (pre ++ [x.body]) ++ runL g (M - (i + 1)) (N + (i + 1)) = runL g M N := by
                  have h := HPR.out
                  rw [show M - i = (M - (i + 1)) + 1 by omega, runL_step HGX.out] at h
                  rw [← h, List.append_assoc]
                  rfl
                go_roundw
                case rel => exact ⟨i + 1, a4, c4, _, pre ++ [x.body], _, m2, _, L3, rfl, by rw [List.length_append, HPL.out]; rfl, hiM2, ho7, HBU.out.snoc ⟨ax, nx, cx, rfl, HXN.out, by have h := HXR.out; rw [HXV.out] at h; exact h⟩, hk7, fun e he => HBD.out e (by simp [he]), HPOP.out, hpr7, fun k hk => HL2_.out k (hown k hk), HMB.out.trans hm7 (fun _ _ e => e) (fun _ _ e => e)⟩
                case measure => simp [lenS]; omega
      · skip
        have hjn : j < n := by omega
        have y0 : decide ((j : Int) < (n : Int)) = true := by simp; omega
        have y1 : decide (j < n) = true := by simpa using hjn
        have hrd := ((HS.out.now).2.2.2.2.1).rd
        obtain ⟨eb, eo, hpl, e0, _⟩ := rd2u hrd j hjl
        have hix := fun wx => run_indexS (P := Try.prog) wx 37 57 iU 2 Try.underlying37 hiU hsU a n c j hjn (hrd.some_ (by omega))
        rw [hpl] at hix
        obtain ⟨x, hx⟩ : ∃ x, L[j].seq = x := ⟨_, rfl⟩
        rw [hx] at e0 hge
        have y2 : decide ((x : Int) < (s : Int)) = false := by simp; omega
        have y3 : decide (x < s) = false := by simp; omega
        have y4 : ((x : Int) == (s : Int)) = false := by simp; omega
        have y5 : (x == s) = false := by simp; omega
        clear hx hpl hrd hge
        obtain ⟨B0, hB0⟩ : ∃ n, wA.heap.size = n := ⟨_, rfl⟩
        have HB0 := Lib.hid hB0
        clear hB0
        have HOLD : Hid (∀ W, Mod (fun k => B0 ≤ k) (World.drew wA) W → Mod (fun _ => False) (World.drew wA) W) := Lib.hid fun W h => h.mono (fun i hi e => by have := HB0.out; simp at hi; omega)
        go_upto_region 8 with fail
        clear qq_0 qq_1 qq_2 lq
        have HSd := Lib.hid HS.out.drew
        have HST : ∀ (ix : Nat) (vs : Nat → Value) (vx : Value) (wx wy : World), factP (ky_r8_1_F q n c n1 c1 s j B0 a a1 bs L) ix vs vx wx → Mod (fun _ => False) wx wy → factP (ky_r8_1_F q n c n1 c1 s j B0 a a1 bs L) ix vs vx wy := by
          refine factP_stays ?_
          unfold ky_r8_1_F
          exact stableP_cons (StableP.of (stable_val _)) <| stableP_cons (StableP.of (EmpT.st)) <| stableP_cons (StableP.of (stable_val _)) <| stableP_cons (StableP.of (stable_val _)) <| stableP_cons (StableP.of (stable_val _)) <| stableP_cons (StableP.of (stable_val _)) <| stableP_cons (StableP.of (stable_val _)) <| stableP_cons (StableP.of (stable_val _)) <| stableP_cons (StableP.of (OwnT.st)) <| stableP_cons (StableP.of (stable_val _)) <| stableP_cons (StableP.of (EmpT.st)) <| stableP_cons (StableP.of (stable_val _)) <| stableP_cons (StableP.of (OwnT.st)) <| stableP_cons (RelK.st (fun _ _ _ _ h _ => h)) <| stableP_cons (RelK.st (fun _ => LitT.st)) <| stableP_cons (RelK.st (fun _ => OwnT.st)) <| stableP_cons (StableP.of (stable_val _)) <| stableP_cons (StableP.of (stable_val _)) <| stableP_cons (StableP.of (stable_val _)) <| stableP_cons (StableP.of (stable_val _)) <| stableP_cons (StableP.of (stable_val _)) <| stableP_cons (StableP.of (stable_val _)) <| stableP_cons (RelK.st (fun _ v w w' h m => ⟨OwnT.st v w w' h.1 m, OwnT.st _ w w' h.2 m⟩)) <| stableP_cons (StableP.of (stable_val _)) <| stableP_cons (StableP.of (stable_val _)) <| stableP_nil
        have HSO : ∀ px ∈ (ky_r8_1_F q n c n1 c1 s j B0 a a1 bs L), px.1 = true → ∀ (vs : Nat → Value) (vx : Value) (wx wy : World), px.2 vs vx wx → px.2 vs vx wy := by
          unfold ky_r8_1_F
          exact solidP_cons (solid_val _) <| solidP_cons (fun h => by cases h) <| solidP_cons (solid_val _) <| solidP_cons (solid_val _) <| solidP_cons (solid_val _) <| solidP_cons (solid_val _) <| solidP_cons (solid_val _) <| solidP_cons (solid_val _) <| solidP_cons (fun h => by cases h) <| solidP_cons (solid_val _) <| solidP_cons (fun h => by cases h) <| solidP_cons (solid_val _) <| solidP_cons (fun h => by cases h) <| solidP_cons (fun h => by cases h) <| solidP_cons (fun h => by cases h) <| solidP_cons (fun h => by cases h) <| solidP_cons (solid_val _) <| solidP_cons (solid_val _) <| solidP_cons (solid_val _) <| solidP_cons (solid_val _) <| solidP_cons (solid_val _) <| solidP_cons (solid_val _) <| solidP_cons (fun h => by cases h) <| solidP_cons (solid_val _) <| solidP_cons (solid_val _) <| solidP_nil
        have HLO : LocL (fun i => ky_r8_1_D.getD i []) 0 (ky_r8_1_F q n c n1 c1 s j B0 a a1 bs L) := by
          unfold ky_r8_1_F
          exact loc_cons (loc_own _) <| loc_cons (loc_own _) <| loc_cons (loc_own _) <| loc_cons (loc_own _) <| loc_cons (loc_own _) <| loc_cons (loc_own _) <| loc_cons (loc_own _) <| loc_cons (loc_own _) <| loc_cons (loc_own _) <| loc_cons (loc_own _) <| loc_cons (loc_own _) <| loc_cons (loc_own _) <| loc_cons (loc_own _) <| loc_cons (RelK.loc (by decide)) <| loc_cons (RelK.loc (by decide)) <| loc_cons (RelK.loc (by decide)) <| loc_cons (loc_own _) <| loc_cons (loc_own _) <| loc_cons (loc_own _) <| loc_cons (loc_own _) <| loc_cons (loc_own _) <| loc_cons (loc_own _) <| loc_cons (RelK.loc (by decide)) <| loc_cons (loc_own _) <| loc_cons (loc_own _) <| loc_nil
        refine wp_region_pair (act := ?actky_r8_1) (Mod (fun k => B0 ≤ k)) (factP (ky_r8_1_F q n c n1 c1 s j B0 a a1 bs L)) (fun i => ky_r8_1_C.getD i 1000) (fun i => ky_r8_1_D.getD i []) 25 _ rfl rfl (by kernel_rfl) (by kernel_rfl) (by kernel_rfl) (by kernel_rfl) (by kernel_rfl) (fun _ => Mod.refl _ _)
          (fun _ _ _ h k => h.trans k (fun _ _ e => e) (fun _ _ e => e)) ?hactky_r8_1 (loc_of HLO) ?_ ?_
        case hactky_r8_1 => intro vs; simp only [putAll, Nat.zero_add, Nat.reduceAdd, Act.put, List.setIfInBounds_toArray, List.set_cons_succ, List.set_cons_zero]; exact rfl
        · refine opsOkP_cons ?_ ?_
          · intro K vs W hR hD hN hK
            clear hD
            clear hN
            try dsimp only at hK ⊢
            simp only [Act.put, List.setIfInBounds_toArray, List.set_cons_succ, List.set_cons_zero] at hK
            go_wp2
            exact hK _ _ rfl (fun _ _ h => h) (Mod.refl _ _)
          refine opsOkP_cons ?_ ?_
          · intro K vs W hR hD hN hK
            clear hD
            clear hN
            try dsimp only at hK ⊢
            simp only [Act.put, List.setIfInBounds_toArray, List.set_cons_succ, List.set_cons_zero] at hK
            have hz := (show B0 ≤ W.heap.size from (by have h1 := HB0.out; have h2 := hR.size; simp at h2; omega))
            go_wp2
            exact hK _ _ ⟨_, rfl, Own.rebase (own_empty W 57 2 W.heap.size rfl) (low_lit hz)⟩ (fun j _ h => HST j vs _ _ _ h (Mod.alloc _ _ _)) (Mod.alloc _ _ _)
          refine opsOkP_cons ?_ ?_
          · intro K vs W hR hD hN hK
            clear hD
            clear hN
            try dsimp only at hK ⊢
            simp only [Act.put, List.setIfInBounds_toArray, List.set_cons_succ, List.set_cons_zero] at hK
            go_wp2
            exact hK _ _ rfl (fun _ _ h => h) (Mod.refl _ _)
          refine opsOkP_cons ?_ ?_
          · intro K vs W hR hD hN hK
            have dq2 : vs 2 = .pointer (some ⟨q, 0, none⟩) := hD 2 (by decide)
            clear hD
            clear hN
            try dsimp only at hK ⊢
            simp only [Act.put, List.setIfInBounds_toArray, List.set_cons_succ, List.set_cons_zero] at hK
            generalize vs 2 = vq2 at hK dq2 ⊢
            subst vq2
            go_wp2
            exact hK _ _ rfl (fun _ _ h => h) (Mod.refl _ _)
          refine opsOkP_cons ?_ ?_
          · intro K vs W hR hD hN hK
            have dq3 : vs 3 = .pointer (some ⟨q, 0, none⟩) := hD 3 (by decide)
            clear hD
            clear hN
            try dsimp only at hK ⊢
            simp only [Act.put, List.setIfInBounds_toArray, List.set_cons_succ, List.set_cons_zero] at hK
            generalize vs 3 = vq3 at hK dq3 ⊢
            subst vq3
            go_wp2
            exact hK _ _ rfl (fun _ _ h => h) (Mod.refl _ _)
          refine opsOkP_cons ?_ ?_
          · intro K vs W hR hD hN hK
            have dq4 : vs 4 = .pointer (some ⟨q, 2, none⟩) := hD 4 (by decide)
            clear hD
            clear hN
            try dsimp only at hK ⊢
            simp only [Act.put, List.setIfInBounds_toArray, List.set_cons_succ, List.set_cons_zero] at hK
            generalize vs 4 = vq4 at hK dq4 ⊢
            subst vq4
            have q0 := ((HSd.out.at (HOLD.out W hR)).2.2.1).cell 2 rfl
            go_wp2
            exact hK _ _ rfl (fun _ _ h => h) (Mod.refl _ _)
          refine opsOkP_cons ?_ ?_
          · intro K vs W hR hD hN hK
            clear hD
            clear hN
            try dsimp only at hK ⊢
            simp only [Act.put, List.setIfInBounds_toArray, List.set_cons_succ, List.set_cons_zero] at hK
            go_wp2
            exact hK _ _ rfl (fun _ _ h => h) (Mod.refl _ _)
          refine opsOkP_cons ?_ ?_
          · intro K vs W hR hD hN hK
            have dq5 : vs 5 = .slice a n c := hD 5 (by decide)
            have dq6 : vs 6 = .int .i64 (j : Int) := hD 6 (by decide)
            clear hD
            clear hN
            try dsimp only at hK ⊢
            simp only [Act.put, List.setIfInBounds_toArray, List.set_cons_succ, List.set_cons_zero] at hK
            generalize vs 5 = vq5 at hK dq5 ⊢
            subst vq5
            generalize vs 6 = vq6 at hK dq6 ⊢
            subst vq6
            have htk := HTK.out
            go_wp2_with fail
            exact hK _ _ rfl (fun _ _ h => h) (Mod.refl _ _)
          refine opsOkP_cons ?_ ?_
          · intro K vs W hR hD hN hK
            have dq1 : (EmpT 57 2 B0) (vs 1) W := hD 1 (by decide)
            have dq7 : vs 7 = .slice a j c := hD 7 (by decide)
            clear hD
            clear hN
            try dsimp only at hK ⊢
            simp only [Act.put, List.setIfInBounds_toArray, List.set_cons_succ, List.set_cons_zero] at hK
            generalize vs 1 = vq1 at hK dq1 ⊢
            generalize vs 7 = vq7 at hK dq7 ⊢
            subst vq7
            have hz := (show B0 ≤ W.heap.size from (by have h1 := HB0.out; have h2 := hR.size; simp at h2; omega))
            have hrd := (HSd.out.at (HOLD.out W hR)).2.1
            obtain ⟨ae, rfl, ho⟩ := dq1
            go_wp2_with (at_builtin; refine wpList_append_any rfl (.tmp 70) (.tmp 76) 37 rfl 57 iU (.agg #[.int .i64 0, .slice none 0 0]) 2 32 Try.underlying37 hiU hzU hsU hbU rfl (by decide) _ (0) ([]) rfl (Own.base ho (Nat.zero_le _)) _ (j) ((L.take j).flatMap c2U) rfl hrd HONE.out.1 (by unfold maxLen; omega) (by omega) ?_; intro v' w' hap)
            obtain ⟨a4, c4, rfl⟩ := hap.form
            have ho4 := hap.own
            have lo4 := hap.low hz (fun k hk => (ho.lt k hk).1)
            have hm4 := hap.still ae 0 0 rfl (by omega)
            simp only [Nat.zero_add, List.nil_append] at ho4 lo4 ⊢
            exact hK _ _ ⟨a4, c4, rfl, Own.rebase ho4 lo4⟩ (fun j _ h => HST j vs _ _ _ h hm4) (hm4.mono (fun _ _ e => e.elim))
          refine opsOkP_cons ?_ ?_
          · intro K vs W hR hD hN hK
            clear hD
            clear hN
            try dsimp only at hK ⊢
            simp only [Act.put, List.setIfInBounds_toArray, List.set_cons_succ, List.set_cons_zero] at hK
            go_wp2
            exact hK _ _ rfl (fun _ _ h => h) (Mod.refl _ _)
          refine opsOkP_cons ?_ ?_
          · intro K vs W hR hD hN hK
            clear hD
            clear hN
            try dsimp only at hK ⊢
            simp only [Act.put, List.setIfInBounds_toArray, List.set_cons_succ, List.set_cons_zero] at hK
            have hz := (show B0 ≤ W.heap.size from (by have h1 := HB0.out; have h2 := hR.size; simp at h2; omega))
            go_wp2
            exact hK _ _ ⟨_, rfl, Own.rebase (own_empty W 5 1 W.heap.size rfl) (low_lit hz)⟩ (fun j _ h => HST j vs _ _ _ h (Mod.alloc _ _ _)) (Mod.alloc _ _ _)
          refine opsOkP_cons ?_ ?_
          · intro K vs W hR hD hN hK
            clear hD
            clear hN
            try dsimp only at hK ⊢
            simp only [Act.put, List.setIfInBounds_toArray, List.set_cons_succ, List.set_cons_zero] at hK
            go_wp2
            exact hK _ _ rfl (fun _ _ h => h) (Mod.refl _ _)
          refine opsOkP_cons ?_ ?_
          · intro K vs W hR hD hN hK
            have dq10 : (EmpT 5 1 B0) (vs 10) W := hD 10 (by decide)
            have dq11 : vs 11 = .slice a1 n1 c1 := hD 11 (by decide)
            clear hD
            clear hN
            try dsimp only at hK ⊢
            simp only [Act.put, List.setIfInBounds_toArray, List.set_cons_succ, List.set_cons_zero] at hK
            generalize vs 10 = vq10 at hK dq10 ⊢
            generalize vs 11 = vq11 at hK dq11 ⊢
            subst vq11
            have hz := (show B0 ≤ W.heap.size from (by have h1 := HB0.out; have h2 := hR.size; simp at h2; omega))
            have hrd := (HSd.out.at (HOLD.out W hR)).2.2.2.1
            obtain ⟨ae, rfl, ho⟩ := dq10
            go_wp2_with (at_builtin; refine wpList_append_any rfl (.tmp 79) (.tmp 80) 23 rfl 5 i8 (.int .u8 0) 1 1 Try.underlying23 hi8 hz8 hs8 hb8 rfl (by decide) _ (0) ([]) rfl (Own.base ho (Nat.zero_le _)) _ (n1) (bs.map (Value.int .u8)) rfl hrd (by intro u hu; obtain ⟨_, _, rfl⟩ := List.mem_map.1 hu; rfl) (by unfold maxLen; omega) (by omega) ?_; intro v' w' hap)
            obtain ⟨a4, c4, rfl⟩ := hap.form
            have ho4 := hap.own
            have lo4 := hap.low hz (fun k hk => (ho.lt k hk).1)
            have hm4 := hap.still ae 0 0 rfl (by omega)
            simp only [Nat.zero_add, List.nil_append] at ho4 lo4 ⊢
            exact hK _ _ ⟨a4, c4, rfl, Own.rebase ho4 lo4⟩ (fun j _ h => HST j vs _ _ _ h hm4) (hm4.mono (fun _ _ e => e.elim))
          refine opsOkP_cons ?_ ?_
          · intro K vs W hR hD hN hK
            have dq9 : vs 9 = .int .i64 (s : Int) := hD 9 (by decide)
            have dq12 : (OwnT 5 1 B0 (n1) (bs.map (Value.int .u8))) (vs 12) W := hD 12 (by decide)
            clear hD
            clear hN
            try dsimp only at hK ⊢
            simp only [Act.put, List.setIfInBounds_toArray, List.set_cons_succ, List.set_cons_zero] at hK
            generalize vs 9 = vq9 at hK dq9 ⊢
            subst vq9
            obtain ⟨ab, cb, hvb, hob⟩ := dq12
            rw [hvb] at hK ⊢
            go_wp2
            exact hK _ _ ⟨by rw [hvb]⟩ (fun _ _ h => h) (Mod.refl _ _)
          refine opsOkP_cons ?_ ?_
          · intro K vs W hR hD hN hK
            have dq12 : (OwnT 5 1 B0 (n1) (bs.map (Value.int .u8))) (vs 12) W := hD 12 (by decide)
            have dq13 : (RelK (fun u v _ => v = .agg #[.int .i64 (s : Int), u]) 12) vs (vs 13) W := hD 13 (by decide)
            clear hD
            clear hN
            try dsimp only at hK ⊢
            simp only [Act.put, List.setIfInBounds_toArray, List.set_cons_succ, List.set_cons_zero] at hK
            generalize vs 13 = vq13 at hK dq13 ⊢
            obtain ⟨ab, cb, hvb, hob⟩ := dq12
            have hq13 : vq13 = .agg #[.int .i64 (s : Int), .slice ab n1 cb] := by have h : vq13 = .agg #[.int .i64 (s : Int), vs 12] := dq13.out; rw [h, hvb]
            subst hq13
            go_wp2
            exact hK _ _ ⟨_, rfl, by rw [hvb]; exact Rd.litN _ 2 _ _ _ 1 rfl rfl (by decide)⟩ (fun j _ h => HST j vs _ _ _ h (Mod.alloc _ _ _)) (Mod.alloc _ _ _)
          refine opsOkP_cons ?_ ?_
          · intro K vs W hR hD hN hK
            have dq8 : (OwnT 57 2 B0 (j) ((L.take j).flatMap c2U)) (vs 8) W := hD 8 (by decide)
            have dq12 : (OwnT 5 1 B0 (n1) (bs.map (Value.int .u8))) (vs 12) W := hD 12 (by decide)
            have dq14 : (RelK (fun u => LitT 2 [.int .i64 (s : Int), u]) 12) vs (vs 14) W := hD 14 (by decide)
            clear hD
            clear hN
            try dsimp only at hK ⊢
            simp only [Act.put, List.setIfInBounds_toArray, List.set_cons_succ, List.set_cons_zero] at hK
            generalize vs 8 = vq8 at hK dq8 ⊢
            generalize vs 14 = vq14 at hK dq14 ⊢
            have hz := (show B0 ≤ W.heap.size from (by have h1 := HB0.out; have h2 := hR.size; simp at h2; omega))
            obtain ⟨ae, ce, rfl, ho⟩ := dq8
            obtain ⟨pl, rfl, hl⟩ := dq14
            obtain ⟨ab, cb, hvb, hob⟩ := dq12
            go_wp2_with (at_builtin; refine wpList_append_any rfl (.tmp 77) (.tmp 83) 37 rfl 57 iU (.agg #[.int .i64 0, .slice none 0 0]) 2 32 Try.underlying37 hiU hzU hsU hbU rfl (by decide) _ (j) ((L.take j).flatMap c2U) rfl (Own.base ho (Nat.zero_le _)) _ (1) ([.int .i64 (s : Int), vs 12]) rfl hl (by intro u hu; simp at hu; exact hu.elim (fun h => by rw [h]; rfl) (fun h => by rw [h, hvb]; rfl)) (by unfold maxLen; omega) (by omega) ?_; intro v' w' hap)
            obtain ⟨a4, c4, rfl⟩ := hap.form
            have ho4 := hap.own
            have lo4 := hap.low hz (fun k hk => (ho.lt k hk).1)
            exact hK _ _ ⟨a4, c4, rfl, Own.rebase ho4 lo4⟩ (factP_solid HSO [12] 15 (by kernel_rfl) (all_one (fun h => ownT_keep h hap.mod (fun q h1 h2 => own_types ho hob (by decide) q h2 h1)))) (hap.mod.mono (fun k _ e => (ho.lt k e).1))
          refine opsOkP_cons ?_ ?_
          · intro K vs W hR hD hN hK
            clear hD
            clear hN
            try dsimp only at hK ⊢
            simp only [Act.put, List.setIfInBounds_toArray, List.set_cons_succ, List.set_cons_zero] at hK
            go_wp2
            exact hK _ _ rfl (fun _ _ h => h) (Mod.refl _ _)
          refine opsOkP_cons ?_ ?_
          · intro K vs W hR hD hN hK
            have dq16 : vs 16 = .pointer (some ⟨q, 0, none⟩) := hD 16 (by decide)
            clear hD
            clear hN
            try dsimp only at hK ⊢
            simp only [Act.put, List.setIfInBounds_toArray, List.set_cons_succ, List.set_cons_zero] at hK
            generalize vs 16 = vq16 at hK dq16 ⊢
            subst vq16
            go_wp2
            exact hK _ _ rfl (fun _ _ h => h) (Mod.refl _ _)
          refine opsOkP_cons ?_ ?_
          · intro K vs W hR hD hN hK
            have dq17 : vs 17 = .pointer (some ⟨q, 0, none⟩) := hD 17 (by decide)
            clear hD
            clear hN
            try dsimp only at hK ⊢
            simp only [Act.put, List.setIfInBounds_toArray, List.set_cons_succ, List.set_cons_zero] at hK
            generalize vs 17 = vq17 at hK dq17 ⊢
            subst vq17
            go_wp2
            exact hK _ _ rfl (fun _ _ h => h) (Mod.refl _ _)
          refine opsOkP_cons ?_ ?_
          · intro K vs W hR hD hN hK
            have dq18 : vs 18 = .pointer (some ⟨q, 2, none⟩) := hD 18 (by decide)
            clear hD
            clear hN
            try dsimp only at hK ⊢
            simp only [Act.put, List.setIfInBounds_toArray, List.set_cons_succ, List.set_cons_zero] at hK
            generalize vs 18 = vq18 at hK dq18 ⊢
            subst vq18
            have q0 := ((HSd.out.at (HOLD.out W hR)).2.2.1).cell 2 rfl
            go_wp2
            exact hK _ _ rfl (fun _ _ h => h) (Mod.refl _ _)
          refine opsOkP_cons ?_ ?_
          · intro K vs W hR hD hN hK
            clear hD
            clear hN
            try dsimp only at hK ⊢
            simp only [Act.put, List.setIfInBounds_toArray, List.set_cons_succ, List.set_cons_zero] at hK
            go_wp2
            exact hK _ _ rfl (fun _ _ h => h) (Mod.refl _ _)
          refine opsOkP_cons ?_ ?_
          · intro K vs W hR hD hN hK
            have dq19 : vs 19 = .slice a n c := hD 19 (by decide)
            have dq20 : vs 20 = .int .i64 (j : Int) := hD 20 (by decide)
            clear hD
            clear hN
            try dsimp only at hK ⊢
            simp only [Act.put, List.setIfInBounds_toArray, List.set_cons_succ, List.set_cons_zero] at hK
            generalize vs 19 = vq19 at hK dq19 ⊢
            subst vq19
            generalize vs 20 = vq20 at hK dq20 ⊢
            subst vq20
            have hdk := HDK.out
            go_wp2_with fail
            exact hK _ _ rfl (fun _ _ h => h) (Mod.refl _ _)
          refine opsOkP_cons ?_ ?_
          · intro K vs W hR hD hN hK
            have dq12 : (OwnT 5 1 B0 (n1) (bs.map (Value.int .u8))) (vs 12) W := hD 12 (by decide)
            have dq15 : (RelK (fun u => OwnT 57 2 B0 (j + 1) ((L.take j).flatMap c2U ++ [.int .i64 (s : Int), u])) 12) vs (vs 15) W := hD 15 (by decide)
            have dq21 : vs 21 = .slice (dropA a c j 2) (n - j) (c - j) := hD 21 (by decide)
            clear hD
            clear hN
            try dsimp only at hK ⊢
            simp only [Act.put, List.setIfInBounds_toArray, List.set_cons_succ, List.set_cons_zero] at hK
            generalize vs 15 = vq15 at hK dq15 ⊢
            generalize vs 21 = vq21 at hK dq21 ⊢
            subst vq21
            have hz := (show B0 ≤ W.heap.size from (by have h1 := HB0.out; have h2 := hR.size; simp at h2; omega))
            have hrd := (HSd.out.at (HOLD.out W hR)).1
            obtain ⟨ae, ce, rfl, ho⟩ := dq15
            obtain ⟨ab, cb, hvb, hob⟩ := dq12
            go_wp2_with (at_builtin; refine wpList_append_any rfl (.tmp 84) (.tmp 90) 37 rfl 57 iU (.agg #[.int .i64 0, .slice none 0 0]) 2 32 Try.underlying37 hiU hzU hsU hbU rfl (by decide) _ (j + 1) ((L.take j).flatMap c2U ++ [.int .i64 (s : Int), vs 12]) rfl (Own.base ho (Nat.zero_le _)) _ ((n - j)) ((L.drop j).flatMap c2U) rfl hrd HONE.out.2 (by unfold maxLen; omega) (by omega) ?_; intro v' w' hap)
            obtain ⟨a4, c4, rfl⟩ := hap.form
            have ho4 := hap.own
            have lo4 := hap.low hz (fun k hk => (ho.lt k hk).1)
            exact hK _ _ ⟨⟨a4, c4, rfl, Own.rebase ho4 lo4⟩, ab, cb, hvb, Own.keep hob hap.mod (fun q h1 h2 => own_types ho hob (by decide) q h2 h1)⟩ (factP_solid HSO [12] 22 (by kernel_rfl) (all_one (fun h => ownT_keep h hap.mod (fun q h1 h2 => own_types ho hob (by decide) q h2 h1)))) (hap.mod.mono (fun k _ e => (ho.lt k e).1))
          refine opsOkP_cons ?_ ?_
          · intro K vs W hR hD hN hK
            have dq0 : vs 0 = .pointer (some ⟨q, 0, none⟩) := hD 0 (by decide)
            clear hD
            clear hN
            try dsimp only at hK ⊢
            simp only [Act.put, List.setIfInBounds_toArray, List.set_cons_succ, List.set_cons_zero] at hK
            generalize vs 0 = vq0 at hK dq0 ⊢
            subst vq0
            go_wp2
            exact hK _ _ rfl (fun _ _ h => h) (Mod.refl _ _)
          refine opsOkP_cons ?_ ?_
          · intro K vs W hR hD hN hK
            have dq23 : vs 23 = .pointer (some ⟨q, 0, none⟩) := hD 23 (by decide)
            clear hD
            clear hN
            try dsimp only at hK ⊢
            simp only [Act.put, List.setIfInBounds_toArray, List.set_cons_succ, List.set_cons_zero] at hK
            generalize vs 23 = vq23 at hK dq23 ⊢
            subst vq23
            go_wp2
            exact hK _ _ rfl (fun _ _ h => h) (Mod.refl _ _)
          exact opsOkP_nil
        · intro vs wq2 hR hF
          have dq22 : (RelK (fun u v W => OwnT 57 2 B0 (j + 1 + (n - j)) ((L.take j).flatMap c2U ++ [.int .i64 (s : Int), u] ++ (L.drop j).flatMap c2U) v W ∧ OwnT 5 1 B0 n1 (bs.map (Value.int .u8)) u W) 12) vs (vs 22) wq2 := hF 22 (by decide) (by decide)
          have dq24 : vs 24 = .pointer (some ⟨q, 2, none⟩) := hF 24 (by decide) (by decide)
          clear hF
          try dsimp only
          generalize vs 22 = vq22 at dq22 ⊢
          generalize vs 24 = vq24 at dq24 ⊢
          subst vq24
          have hmw : Mod (fun _ => False) wA wq2 := (Mod.drew _ _).of2 (HOLD.out _ hR)
          replace HS := Lib.hid (HS.out.step hmw)
          clear hmw HSd
          obtain ⟨⟨av, cv, rfl, ho⟩, ab, cb, hvb, hob⟩ := dq22
          have HO := Lib.hid ho
          have HOB := Lib.hid hob
          generalize hv12 : vs 12 = v12 at hvb HO HOB
          subst hvb
          clear ho hob hv12
          obtain ⟨nn, hnn⟩ : ∃ x, j + 1 + (n - j) = x := ⟨_, rfl⟩
          rw [hnn] at HO ⊢
          have hbq := (HS.out.now).2.2.1
          have f2 := hbq.free 2
          have c2_ := hbq.cell 2 rfl
          have hmm := (HS.out.now).2.2.2.2.2
          have hset : Mod (fun k => k = q) wq2 (wq2.setCell ⟨q, 2, none⟩ (.slice av nn cv)) := Mod.setCell _ _ _ rfl
          have hmw := (HMA.out.of2 hmm).trans hset (H := fun k => k = q) (fun _ _ e => e.elim) (fun _ _ e => e)
          have hqB : q < B0 := by have h1 := HB0.out; have h2 := HMA.out.size; omega
          have hL1 : L.take j ++ L.drop j = L := List.take_append_drop j L
          have hhl1 := HHL.out
          rw [← hL1] at hhl1
          have hp1 := HL.put hhl1 (x := ⟨s, bs, .slice ab n1 cb⟩) (fun e he => HALL.out e he) (fun e he => HGT.out e he)
          have hrk : RK (wq2.setCell ⟨q, 2, none⟩ (.slice av nn cv)) q av nn cv M N (L.take j ++ ⟨s, bs, .slice ab n1 cb⟩ :: L.drop j) := by
            refine ⟨hW, hW6, by rw [← hnn, List.length_append, List.length_cons, List.length_take, List.length_drop]; omega, hbq.set 2 _, ?_, fun k hk e => by have h1 := (HO.out.lt k hk).1; omega, fun e he => ?_⟩
            · have h := (Rd.ofOwn HO.out).keep hset (fun k hk e => by have h1 := (HO.out.lt k hk).1; omega)
              rw [List.flatMap_append, List.flatMap_cons]
              simpa [c2U] using h
            · rw [List.mem_append, List.mem_cons] at he
              have hold : ∀ e ∈ L, BodyU (wq2.setCell ⟨q, 2, none⟩ (.slice av nn cv)) e.body e.v := fun e he => (HT.out.bodies e he).keep hmw (fun k _ hk => by rw [hk]; exact HT.out.noB)
              rcases he with he | rfl | he
              · exact hold e (List.mem_of_mem_take he)
              · exact ⟨ab, n1, cb, rfl, HBN.out, (Rd.ofOwn HOB.out).keep hset (fun k hk e => by have h1 := (HOB.out.lt k hk).1; omega)⟩
              · exact hold e (List.mem_of_mem_drop he)
          have hlw : ∀ k, (Value.slice av nn cv).ownBlock = some k → w.heap.size ≤ k := fun k hk => by have h1 := (HO.out.lt k hk).1; have h2 := HB0.out; have h3 := HMA.out.size; omega
          obtain ⟨L1, hLL⟩ : ∃ l, L.take j ++ (⟨s, bs, .slice ab n1 cb⟩ : Ud) :: L.drop j = l := ⟨_, rfl⟩
          rw [hLL] at hp1 hrk
          replace hp1 : HL (putH f s bs) L1 := hp1
          have hs1 := putH_sup (bs := bs) HSUP.out ⟨hs1, hs2⟩
          obtain ⟨g, hg⟩ : ∃ g, putH f s bs = g := ⟨_, rfl⟩
          rw [hg] at hp1 hs1
          have HG := Lib.hid hg
          have HP1 := Lib.hid hp1
          have HRK := Lib.hid hrk
          have HMW := Lib.hid hmw
          have HLW := Lib.hid hlw
          have HGS := Lib.hid hs1
          have HWB : Hid (w.heap.size ≤ B0) := Lib.hid (by have h1 := HB0.out; have h2 := HMA.out.size; omega)
          clear hLL hhl1 hp1 hrk hmw hlw hs1 hg hset hmm hbq hL1 hnn
          go_wp2_with fail
          obtain ⟨wB, hwB⟩ : ∃ x, wq2.setCell ⟨q, 2, none⟩ (.slice av nn cv) = x := ⟨_, rfl⟩
          have HSZ : Hid (wq2.heap.size = wB.heap.size) := Lib.hid (by rw [← hwB]; simp)
          rw [hwB] at HRK HMW ⊢
          have HLV : Hid (∀ k, (Value.slice av nn cv).ownBlock = some k → w.heap.size ≤ k ∧ k < wB.heap.size) := Lib.hid (fun k hk => ⟨HLW.out k hk, by have h1 := (HO.out.lt k hk).2; have h2 := HSZ.out; omega⟩)
          have hqW : q < wB.heap.size := by have h1 := HMW.out.size; omega
          clear hwB f2 c2_
          go_loopw [9] (fun gv wr => ∃ (i : Nat) (ag : Option Addr) (cg : Nat) (us : List Value) (pre : List (List Int)) (a2 : Option Addr) (n2 c2 : Nat) (L2 : List Ud), gv = .slice ag i cg ∧ pre.length = i ∧ i ≤ M ∧ World.ownsRow wr wB.heap.size 23 1 (.slice ag i cg) i us ∧ BodiesU wB pre us ∧ RK0 wr q a2 n2 c2 M (N + i) L2 ∧ (∀ e ∈ L2, BodyU wB e.body e.v) ∧ HL (fromH g (N + i)) L2 ∧ pre ++ runL g (M - i) (N + i) = runL g M N ∧ (∀ k, (Value.slice a2 n2 c2).ownBlock = some k → w.heap.size ≤ k ∧ k < wB.heap.size) ∧ Mod (fun k => k = q) wB wr) (fun gv _ => M - lenS gv)
          case atStart => exact ⟨0, none, 0, [], [], av, nn, cv, L1, rfl, rfl, Nat.zero_le _, World.ownsRow_nil _ _ _ _, BodiesU.nil _, HRK.out.zero, HRK.out.bodies, by rw [Nat.add_zero, fromH_id (fun s h => (HGS.out s h).1)]; exact HP1.out, by simp, HLV.out, Mod.refl _ _⟩
          case round =>
            have HNB := Lib.hid HRK.out.noB
            obtain ⟨i, ag, cg, us, pre, a2, n2, c2, L2, rfl, hpl, hiM, ho, hbu, hrk, hbd, hhl, hpre, hlw, hmr⟩ := hrel
            obtain ⟨wo, hwo⟩ : ∃ x : World, x = wr := ⟨_, rfl⟩
            subst hwo
            have HO2 := Lib.hid ho
            have HBU := Lib.hid hbu
            have HK := Lib.hid hrk
            have HBD := Lib.hid hbd
            have HH := Lib.hid hhl
            have HPR := Lib.hid hpre
            have HL2_ := Lib.hid hlw
            have HMR := Lib.hid hmr
            have HPL := Lib.hid hpl
            have hl2 := hrk.len
            have e0 := hrk.blk.cell 1 rfl
            have e1 := hrk.blk.cell 2 rfl
            clear ho hbu hrk hbd hhl hpre hlw hmr hpl HRK HLW HP1 HLV
            have hdone : (∀ x ∈ L2, x.seq ≠ N + i) → runL g (M - i) (N + i) = [] := fun hx => by
              have h := HH.out.none_ hx
              rw [fromH_at] at h
              exact runL_stop h
            have HDN := Lib.hid hdone
            clear hdone
            cases L2 with
            | nil =>
              obtain rfl : 0 = n2 := hl2
              have HST : Hid (runL g (M - i) (N + i) = []) := Lib.hid (HDN.out (fun x hx => by simp at hx))
              go_wp2_with fail
              go_quiet (fail)
              have hrl : runL g M N = pre := by have h := HPR.out; rw [HST.out, List.append_nil] at h; exact h.symm
              have hmd : Mod (fun _ => False) wo (World.drewN wo nq) := Mod.drewN _ _ _
              have hmf := HMR.out.trans hmd (H := fun k => k = q) (fun _ _ e => e) (fun _ _ e => e.elim)
              have hnb : ∀ k, k < wB.heap.size → k = q → NoB wB k := fun k _ e => by rw [e]; exact HNB.out
              go_wp2_with fail
              go_ret2
              unfold RTakeP
              rw [HG.out, hrl]
              exact ⟨ag, i, cg, us, rfl, HPL.out, Rd.ofOwn (Own.keep HO2.out hmd (fun _ _ e => e)), HBU.out.keep hmf hnb, a2, _, c2, _, (HK.out.later hmd).full (fun e he => (HBD.out e he).keep hmf hnb), HH.out, fun k hk => (HL2_.out k hk).1, HMW.out.trans hmf (fun _ _ e => e) (fun _ _ e => e)⟩
            | cons x L3 =>
              have hx0 := (fromH_some HH.out.head).1
              have hxM := (HGS.out x.seq (by rw [(fromH_some HH.out.head).2]; simp)).2
              obtain ⟨m2, rfl⟩ : ∃ m, n2 = m + 1 := ⟨L3.length, by rw [← hl2]; simp⟩
              obtain ⟨eb, eo, hpl, e2, e3⟩ := rd2u HK.out.rd 0 (by simp)
              have hix : ∀ wx, (Instr.indexAt 37 (.slice a2 (m2 + 1) c2) (.int .i64 0)).run Try.prog wx = .ok (.pointer (some ⟨eb, eo, none⟩)) wx := fun wx => by have h := run_indexS (P := Try.prog) wx 37 57 iU 2 Try.underlying37 hiU hsU a2 (m2 + 1) c2 0 (by omega) (HK.out.rd.some_ (by omega)); rw [hpl] at h; exact h
              replace e2 : wo.cell? ⟨eb, eo, none⟩ = some (.int .i64 (x.seq : Int)) := e2
              replace e3 : wo.cell? ⟨eb, eo + 1, none⟩ = some x.v := e3
              have y0 : decide ((0 : Int) < ((m2 + 1 : Nat) : Int)) = true := decide_eq_true (by omega)
              have y0b : decide ((0 : Int) < (m2 : Int) + 1) = true := decide_eq_true (by omega)
              obtain ⟨xs, hxs⟩ : ∃ k, x.seq = k := ⟨_, rfl⟩
              rw [hxs] at e2 hx0 hxM
              have HXS := Lib.hid hxs
              clear hxs hpl
              by_cases hxe : xs = N + i
              case neg =>
                have y1 : ((xs : Int) == ((N + i : Nat) : Int)) = false := by simp; omega
                have y2 : (xs == N + i) = false := by simpa using hxe
                have y3 : ((xs : Int) == (N : Int) + (i : Int)) = false := by simp; omega
                have HST : Hid (runL g (M - i) (N + i) = []) := Lib.hid (HDN.out (fun y hy => by
                  rcases List.mem_cons.1 hy with rfl | hy
                  · rw [HXS.out]; exact hxe
                  · have h3 := (riseU_split (A := [x]) (Q := L3) HH.out.1).2.2 x (by simp) y hy
                    have h4 := HXS.out
                    omega))
                clear hxe
                go_wp2_with fail
                go_quiet (fail)
                have hrl : runL g M N = pre := by have h := HPR.out; rw [HST.out, List.append_nil] at h; exact h.symm
                have hmd : Mod (fun _ => False) wo (World.drewN wo nq) := Mod.drewN _ _ _
                have hmf := HMR.out.trans hmd (H := fun k => k = q) (fun _ _ e => e) (fun _ _ e => e.elim)
                have hnb : ∀ k, k < wB.heap.size → k = q → NoB wB k := fun k _ e => by rw [e]; exact HNB.out
                go_wp2_with fail
                go_ret2
                unfold RTakeP
                rw [HG.out, hrl]
                exact ⟨ag, i, cg, us, rfl, HPL.out, Rd.ofOwn (Own.keep HO2.out hmd (fun _ _ e => e)), HBU.out.keep hmf hnb, a2, _, c2, _, (HK.out.later hmd).full (fun e he => (HBD.out e he).keep hmf hnb), HH.out, fun k hk => (HL2_.out k hk).1, HMW.out.trans hmf (fun _ _ e => e) (fun _ _ e => e)⟩
              case pos =>
                subst hxe
                obtain ⟨ax, nx, cx, hxv, hxn, hxr⟩ := HBD.out x (by simp)
                rw [hxv] at e3
                have hgx : g (N + i) = some x.body := by have h := (fromH_some HH.out.head).2; rwa [HXS.out] at h
                have hiM2 : i < M := by omega
                have hpop := HH.out.pop
                rw [HXS.out, fromH_succ] at hpop
                have HGX := Lib.hid hgx
                have HPOP := Lib.hid hpop
                have HXV := Lib.hid hxv
                have HXR := Lib.hid hxr
                have HXN := Lib.hid hxn
                have y1 : (((N + i : Nat) : Int) == ((N + i : Nat) : Int)) = true := by simp
                have y2 : (N + i == N + i) = true := by simp
                clear hgx hpop hxv hxr hxn hx0 hxM
                go_wp2_with fail
                go_quiet (fail)
                obtain ⟨wC, hwC⟩ : ∃ x, World.drewN wo nq = x := ⟨_, rfl⟩
                have hmd : Mod (fun _ => False) wo wC := by rw [← hwC]; exact Mod.drewN _ _ _
                rw [hwC]
                have hkC := HK.out.later hmd
                have HKC := Lib.hid hkC
                have HMD := Lib.hid hmd
                have g1 := hkC.blk.cell 1 rfl
                have g2 := hkC.blk.cell 2 rfl
                have e3c := hmd.cell e3 (fun e => e)
                clear hwC e0 e1 e2 e3 hmd hkC
                have hoC := Own.keep HO2.out HMD.out (fun _ _ e => e)
                have HOC := Lib.hid hoC
                clear hoC
                go_upto_region 12 with (at_builtin; refine wpList_append_any rfl (.tmp 114) (.tmp 122) 31 rfl 23 iB (.slice none 0 0) 1 24 Try.underlying31 hiB hzB hsB hbB rfl (by decide) _ i us rfl (World.ownsRow.alloc (Own.base HOC.out (Nat.zero_le _)) _) _ 1 [.slice ax nx cx] rfl (Rd.lit _ _ _ _ 1 rfl rfl (by decide)) (by intro u hu; simp at hu; subst hu; rfl) (by unfold maxLen; omega) (by omega) ?_; intro v4 w4 hap)
                obtain ⟨a4, c4, rfl⟩ := hap.form
                have hB2 : wB.heap.size ≤ wo.heap.size := HMR.out.size
                have ho5 := Own.rebase hap.own (hap.low (B := wB.heap.size) (by have h1 := HMD.out.size; simp; omega) (fun k hk => (HO2.out.lt k hk).1))
                have hm4 : Mod (fun k => (Value.slice ag i cg).ownBlock = some k) wC w4 := (Mod.alloc (fun _ => False) wC _).trans hap.mod (fun _ _ e => e.elim) (fun _ _ e => e)
                have hk4 := HKC.out.keep hm4 (fun e => by have h1 := (HO2.out.lt q e).1; omega) (fun k hk e => by have h1 := (HO2.out.lt k e).1; have h2 := (HL2_.out k hk).2; omega)
                have hmB : Mod (fun k => k = q) wB w4 := (HMR.out.trans HMD.out (H := fun k => k = q) (fun _ _ e => e) (fun _ _ e => e.elim)).trans hm4 (fun _ _ e => e) (fun k hk e => by have h1 := (HO2.out.lt k e).1; omega)
                have HO5 := Lib.hid ho5
                have HK4 := Lib.hid hk4
                have HMB := Lib.hid hmB
                clear hap ho5 hm4 hk4 hmB hB2 g1 g2 e3c
                have g2 := HK4.out.blk.cell 2 rfl
                have p2 := HK4.out.blk.free 2
                have hcm : m2 + 1 ≤ c2 := by obtain ⟨_, _, _, h1, h2, _⟩ := HK4.out.rd; cases h1; exact h2
                have hdk : ∀ wx, (Instr.slice 37 (.slice a2 (m2 + 1) c2) (some (.int .i64 1)) none none).run Try.prog wx = .ok (.slice (dropA a2 c2 1 2) m2 (c2 - 1)) wx := fun wx => run_dropS (P := Try.prog) wx 37 57 iU 2 Try.underlying37 hiU hsU a2 (m2 + 1) c2 1 (by omega)
                go_upto_region 13 with fail
                have hst : Mod (fun k => k = q) w4 (w4.setCell ⟨q, 2, none⟩ (.slice (dropA a2 c2 1 2) m2 (c2 - 1))) := Mod.setCell _ _ _ rfl
                have hb6 := HK4.out.blk.set 2 (.slice (dropA a2 c2 1 2) m2 (c2 - 1))
                obtain ⟨w6, hw6⟩ : ∃ x, w4.setCell ⟨q, 2, none⟩ (.slice (dropA a2 c2 1 2) m2 (c2 - 1)) = x := ⟨_, rfl⟩
                rw [hw6] at hst hb6
                rw [hw6]
                have HST6 := Lib.hid hst
                have HB6 := Lib.hid hb6
                clear hw6 hst hb6 g2 p2 hdk
                have g1 := HB6.out.cell 1 rfl
                have p1 := HB6.out.free 1
                go_wp2_with fail
                have hst7 : Mod (fun k => k = q) w6 (w6.setCell ⟨q, 1, none⟩ (.int .i64 (((N + i : Nat) : Int) + 1))) := Mod.setCell _ _ _ rfl
                have hm7 := HST6.out.trans hst7 (H := fun k => k = q) (fun _ _ e => e) (fun _ _ e => e)
                have hown : ∀ k, (Value.slice (dropA a2 c2 1 2) m2 (c2 - 1)).ownBlock = some k → (Value.slice a2 (m2 + 1) c2).ownBlock = some k := fun k hk => by rw [← hk]; exact (dropA_own a2 c2 1 2 m2 (c2 - 1) (m2 + 1) c2).symm
                have hrd7 := HK4.out.rd.drop (n := 1) (by omega)
                rw [show (1 * 2) = (1 * 2) from rfl, c2U_drop] at hrd7
                replace hrd7 : Rd w4 2 (.slice (dropA a2 c2 1 2) m2 (c2 - 1)) m2 (L3.flatMap c2U) := hrd7
                have hnq : ∀ k, (Value.slice a2 (m2 + 1) c2).ownBlock = some k → k ≠ q := fun k hk e => by have := HK4.out.ne k hk e; omega
                have hk7 : RK0 (w6.setCell ⟨q, 1, none⟩ (.int .i64 (((N + i : Nat) : Int) + 1))) q (dropA a2 c2 1 2) m2 (c2 - 1) M (N + (i + 1)) L3 := ⟨hW, hW6, by simpa using hl2, by have h := HB6.out.set 1 (.int .i64 (((N + i : Nat) : Int) + 1)); rw [show ((N + (i + 1) : Nat) : Int) = ((N + i : Nat) : Int) + 1 by omega]; exact h, hrd7.keep hm7 (fun k hk => hnq k (hown k hk)), fun k hk e => absurd e (hnq k (hown k hk))⟩
                have ho7 := Own.keep HO5.out hm7 (fun k hk e => by have h1 := (HO5.out.lt k hk).1; omega)
                have hpr7 : (pre ++ [x.body]) ++ runL g (M - (i + 1)) (N + (i + 1)) = runL g M N := by
                  have h := HPR.out
                  rw [show M - i = (M - (i + 1)) + 1 by omega, runL_step HGX.out] at h
                  rw [← h, List.append_assoc]
                  rfl
                go_roundw
                case rel => exact ⟨i + 1, a4, c4, _, pre ++ [x.body], _, m2, _, L3, rfl, by rw [List.length_append, HPL.out]; rfl, hiM2, ho7, HBU.out.snoc ⟨ax, nx, cx, rfl, HXN.out, by have h := HXR.out; rw [HXV.out] at h; exact h⟩, hk7, fun e he => HBD.out e (by simp [he]), HPOP.out, hpr7, fun k hk => HL2_.out k (hown k hk), HMB.out.trans hm7 (fun _ _ e => e) (fun _ _ e => e)⟩
                case measure => simp [lenS]; omega
end Go.Proofs.Ytffcoajodpfngaa
