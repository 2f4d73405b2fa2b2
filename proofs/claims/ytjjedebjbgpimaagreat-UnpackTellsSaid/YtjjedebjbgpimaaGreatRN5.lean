/- The document's own net: Cut, Out, In, by contract. -/
import Derived.Test.YtjjedebjbgpimaaGreatRN4
namespace Mile
open Go Go.RowKit
theorem out_part {L : List Ar} {v : Int} {p k : Nat} (h1 : ∀ i (h : i < L.length), i < p → L[i].f ≠ v) (h2 : ∀ i (h : i < L.length), p ≤ i → i < p + k → L[i].f = v) (h3 : ∀ i (h : i < L.length), p + k ≤ i → L[i].f ≠ v) : outL L v = (L.drop p).take k := by
  have e : L = L.take p ++ ((L.drop p).take k ++ (L.drop p).drop k) := by rw [List.take_append_drop, List.take_append_drop]
  have e2 : outL L v = outL (L.take p ++ ((L.drop p).take k ++ (L.drop p).drop k)) v := congrArg (fun l => outL l v) e
  rw [e2]
  unfold outL
  rw [List.filter_append, List.filter_append, List.filter_eq_nil_iff.2 (fun b hb => ?_), List.filter_eq_self.2 (fun b hb => ?_), List.filter_eq_nil_iff.2 (fun b hb => ?_), List.nil_append, List.append_nil]
  · obtain ⟨i, hi, rfl⟩ := List.getElem_of_mem hb
    simp only [List.length_drop] at hi
    simp only [List.getElem_drop]
    simpa using h3 _ (by omega) (by omega)
  · obtain ⟨i, hi, rfl⟩ := List.getElem_of_mem hb
    simp only [List.length_take, List.length_drop] at hi
    simp only [List.getElem_take, List.getElem_drop]
    simpa using h2 _ (by omega) (by omega) (by omega)
  · obtain ⟨i, hi, rfl⟩ := List.getElem_of_mem hb
    simp only [List.length_take] at hi
    simp only [List.getElem_take]
    simpa using h1 _ (by omega) (by omega)
end Mile
namespace Go.Proofs.YtjjedebjbgpimaaGreat
open Go.RowKit Mile
set_option maxRecDepth 100000
theorem posN_lt {L : List Ar} (hs : SortN L) (a : Ar) (i : Nat) (hi : i < L.length) (h : i < posN L a) : keyLt L[i] a := by
  have e := split3 hs a
  have h1 : L[i]? = (ltN L a ++ (eqN L a ++ gtN L a))[i]? := congrArg (fun l => l[i]?) e
  rw [List.getElem?_append_left h, List.getElem?_eq_getElem hi] at h1
  have h2 := List.mem_of_getElem? h1.symm
  exact of_decide_eq_true (List.mem_filter.1 h2).2
theorem posN_ge {L : List Ar} (hs : SortN L) (a : Ar) (i : Nat) (hi : i < L.length) (h : posN L a ≤ i) : ¬ keyLt L[i] a := fun hk => by
  have e := split3 hs a
  have h1 : L[i]? = (ltN L a ++ (eqN L a ++ gtN L a))[i]? := congrArg (fun l => l[i]?) e
  rw [List.getElem?_append_right h, List.getElem?_eq_getElem hi] at h1
  have h2 := List.mem_of_getElem? h1.symm
  rcases List.mem_append.1 h2 with h3 | h3
  · have := of_decide_eq_true (List.mem_filter.1 h3).2
    unfold keyLt at hk; omega
  · have := of_decide_eq_true (List.mem_filter.1 h3).2
    exact keyLt.irr (hk.trans this)
set_option maxHeartbeats 8000000 in
theorem rn_in {w : World} {q n : Nat} {L : List Ar} (h : RN w q n L) (hb : L.length ≤ 10000) (v : Int) : Calls Tryz.prog 66 #[.pointer (some ⟨q, 0, none⟩), .int .i64 v] w fun e w' => NewR 50 4 (inL L v).length ((inL L v).flatMap c4) w e w' := by
  obtain ⟨a, c, hbk, hr, _⟩ := h
  obtain ⟨iA, hiA, hzA, hsA, hbA⟩ := info_parts Nt.infoA
  obtain ⟨ln, hln⟩ : ∃ x, L.length = x := ⟨_, rfl⟩
  rw [hln] at hbk hr hb
  have HIX := Lib.hid (fun (k : Nat) (hk : k < ln) wx => run_indexS (P := Tryz.prog) wx 34 50 iA 4 Tryz.underlying34 hiA hsA a ln c k hk (hr.some_ (by omega)))
  have HBK := Lib.hid hbk
  have HR := Lib.hid hr
  have HLN := Lib.hid hln
  clear hbk hr hln
  go_enter Tryz.func66, Tryz.ntmps66
  go_wp2_with fail
  go_loopw [5, 6] (fun gv jv wr => ∃ (j mm : Nat) (ag : Option Addr) (cg : Nat), gv = .slice ag mm cg ∧ jv = .int .i64 (j : Int) ∧ j ≤ ln ∧ ((L.take j).filter (fun b => decide (b.t = v))).length = mm ∧ wr.ownsRow w.heap.size 50 4 (.slice ag mm cg) mm (((L.take j).filter (fun b => decide (b.t = v))).flatMap c4) ∧ Mod (fun _ => False) w wr) (fun _ jv _ => ln - (intOf jv).toNat)
  case atStart => exact ⟨0, 0, none, 0, rfl, rfl, Nat.zero_le _, by rw [List.take_zero]; rfl, World.ownsRow_nil _ _ _ _, Mod.refl _ _⟩
  case round =>
    obtain ⟨j, mm, ag, cg, rfl, rfl, hj, hml, hown, hmo⟩ := hrel
    obtain ⟨wo, hwo⟩ : ∃ x : World, x = wr := ⟨_, rfl⟩
    subst hwo
    have q1 := (HBK.out.keep hmo (fun e => e)).cell 1 rfl
    have HOW := Lib.hid hown
    have HMO := Lib.hid hmo
    have HML := Lib.hid hml
    have hml2 : mm ≤ j := by rw [← hml]; exact Nat.le_trans (List.length_filter_le _ _) (by rw [List.length_take]; omega)
    clear hown hmo hml
    by_cases hjl : j < ln
    case neg =>
      obtain rfl : j = ln := by omega
      have z0 : decide ((j : Int) < (j : Int)) = false := by simp
      have htk : L.take j = L := List.take_of_length_le (Nat.le_of_eq HLN.out)
      have how := HOW.out
      have hml := HML.out
      rw [htk] at how hml
      have HOX := Lib.hid how
      have HMX := Lib.hid hml
      clear htk how hml
      go_wp2_with fail
      go_ret
      have hq : (L.filter (fun b => decide (b.t = v))) = inL L v := rfl
      have h8 := HMX.out
      have h9 := HOX.out
      rw [hq] at h8 h9
      subst h8
      exact ⟨ag, cg, rfl, h9, HMO.out⟩
    case pos =>
      have z0 : decide ((j : Int) < (ln : Int)) = true := by simp; omega
      have hk1 : IntKind.i64.wrap ((j : Int) + 1) = ((j + 1 : Nat) : Int) := by rw [IntWalk.i64_in _ (by omega)]; omega
      have hjR : j < L.length := by rw [HLN.out]; exact hjl
      obtain ⟨eb, eo, hpe, e0, e1, e2, e3⟩ := rd4 (HR.out.keep HMO.out (fun _ _ e => e)) j hjR
      have hix := HIX.out j (by omega)
      rw [hpe] at hix
      obtain ⟨b, hb0⟩ : ∃ b, L[j] = b := ⟨_, rfl⟩
      rw [hb0] at e0 e1 e2 e3
      obtain ⟨bf, bt, bw, bm⟩ := b
      simp only at e0 e1 e2 e3
      have hst : (L.take (j + 1)).filter (fun b => decide (b.t = v)) = (L.take j).filter (fun b => decide (b.t = v)) ++ [(⟨bf, bt, bw, bm⟩ : Ar)].filter (fun b => decide (b.t = v)) := by rw [take_at hjR, List.filter_append, hb0]
      have HK1 := Lib.hid hk1
      have HS0 := Lib.hid hst
      clear hst hb0 hpe hjR hk1
      by_cases c1 : bt = v
      · have x1 : (bt == v) = true := by simpa using c1
        have hst : (L.take (j + 1)).filter (fun b => decide (b.t = v)) = (L.take j).filter (fun b => decide (b.t = v)) ++ [(⟨bf, bt, bw, bm⟩ : Ar)] := by rw [HS0.out]; simp [c1]
        have hl7 : ((L.take (j + 1)).filter (fun b => decide (b.t = v))).length = mm + 1 := by rw [hst, List.length_append, HML.out]; rfl
        have HST := Lib.hid hst
        have HL7 := Lib.hid hl7
        have hmx1 : mm + 1 ≤ maxLen := by unfold maxLen; omega
        clear hst hl7 c1
        have hk1 := HK1.out
        have hob := fun o1 => Own.base (Own.keep HOW.out (Mod.alloc (fun _ => False) wo o1) (fun _ _ e => e)) (Nat.zero_le _)
        go_wp2_with (at_builtin; refine wpList_append_any rfl (.tmp 26) (.tmp 34) 34 rfl 50 iA (.agg #[.int .i64 0, .int .i64 0, .int .i64 0, .int .i64 0]) 4 32 Tryz.underlying34 hiA hzA hsA hbA rfl (by decide) _ mm (((L.take j).filter (fun b => decide (b.t = v))).flatMap c4) rfl (hob _) _ 1 [.int .i64 bf, .int .i64 bt, .int .i64 bw, .int .i64 bm] rfl (by exact Rd.litN 50 4 [.int .i64 bf, .int .i64 bt, .int .i64 bw, .int .i64 bm] (0, 0) _ 1 (by first | rfl | simp) rfl (by decide)) (by intro u hu; simp at hu; rcases hu with rfl | rfl | rfl | rfl <;> rfl) hmx1 (by omega) ?_; intro v7 w7 hap; obtain ⟨a7, c7, rfl⟩ := hap.form; have HAPP := Lib.hid hap; clear hap hob)
        have hlow : ∀ q, (Value.slice ag mm cg).ownBlock = some q → w.heap.size ≤ q := fun q hq => (HOW.out.lt q hq).1
        have hs2 : w.heap.size ≤ wo.heap.size := HMO.out.size
        have ho7 := HAPP.out.own
        have lo7 := HAPP.out.low (B := w.heap.size) (by simp; omega) hlow
        have hm7 := HAPP.out.modOld (W0 := w) (HMO.out.of2 (Mod.alloc (fun _ => False) wo _)) hlow
        have hx7 : ((L.take j).filter (fun b => decide (b.t = v))).flatMap c4 ++ [.int .i64 bf, .int .i64 bt, .int .i64 bw, .int .i64 bm] = ((L.take (j + 1)).filter (fun b => decide (b.t = v))).flatMap c4 := by rw [HST.out, List.flatMap_append]; rfl
        rw [hx7] at ho7
        have HO7 := Lib.hid (Own.rebase ho7 lo7)
        have HM7 := Lib.hid hm7
        clear ho7 lo7 hm7 hx7 hlow hs2
        go_wp2_with fail
        go_roundw
        case rel => exact ⟨j + 1, mm + 1, a7, c7, rfl, rfl, by omega, HL7.out, HO7.out, HM7.out⟩
        case measure => simp [intOf]; omega
      · have x1 : (bt == v) = false := by simpa using c1
        have hst : (L.take (j + 1)).filter (fun b => decide (b.t = v)) = (L.take j).filter (fun b => decide (b.t = v)) := by rw [HS0.out]; simp [c1]
        have HST := Lib.hid hst
        clear hst c1
        have hk1 := HK1.out
        go_wp2_with fail
        go_roundw
        case rel => exact ⟨j + 1, mm, ag, cg, rfl, rfl, by omega, by rw [HST.out]; exact HML.out, by rw [HST.out]; exact HOW.out, HMO.out⟩
        case measure => simp [intOf]; omega
set_option maxHeartbeats 8000000 in
theorem rn_cut {w : World} {q n : Nat} {L : List Ar} {G : Nat → Prop} (h : RNG w q n L G) (hb : L.length ≤ 10000) (v : Int) : Calls Tryz.prog 85 #[.pointer (some ⟨q, 0, none⟩), .int .i64 v] w fun e w' => e = .returned (.tuple #[]) ∧ RNG w' q n (cutN L v) (fun k => G k ∨ (w.heap.size ≤ k ∧ k < w'.heap.size)) ∧ Mod (fun k => k = q) w w' := by
  obtain ⟨a, c, hbk, hr, _⟩ := h
  obtain ⟨iA, hiA, hzA, hsA, hbA⟩ := info_parts Nt.infoA
  obtain ⟨ln, hln⟩ : ∃ x, L.length = x := ⟨_, rfl⟩
  rw [hln] at hbk hr hb
  have HIX := Lib.hid (fun (k : Nat) (hk : k < ln) wx => run_indexS (P := Tryz.prog) wx 34 50 iA 4 Tryz.underlying34 hiA hsA a ln c k hk (hr.some_ (by omega)))
  have HBK := Lib.hid hbk
  have HR := Lib.hid hr
  have HLN := Lib.hid hln
  clear hbk hr hln
  go_enter Tryz.func85, Tryz.ntmps85
  go_wp2_with fail
  go_loopw [4, 5] (fun gv jv wr => ∃ (j mm : Nat) (ag : Option Addr) (cg : Nat), gv = .slice ag mm cg ∧ jv = .int .i64 (j : Int) ∧ j ≤ ln ∧ ((L.take j).filter (fun b => decide (b.f ≠ v ∧ b.t ≠ v))).length = mm ∧ wr.ownsRow w.heap.size 50 4 (.slice ag mm cg) mm (((L.take j).filter (fun b => decide (b.f ≠ v ∧ b.t ≠ v))).flatMap c4) ∧ Mod (fun _ => False) w wr) (fun _ jv _ => ln - (intOf jv).toNat)
  case atStart => exact ⟨0, 0, none, 0, rfl, rfl, Nat.zero_le _, by rw [List.take_zero]; rfl, World.ownsRow_nil _ _ _ _, Mod.refl _ _⟩
  case round =>
    obtain ⟨j, mm, ag, cg, rfl, rfl, hj, hml, hown, hmo⟩ := hrel
    obtain ⟨wo, hwo⟩ : ∃ x : World, x = wr := ⟨_, rfl⟩
    subst hwo
    have q1 := (HBK.out.keep hmo (fun e => e)).cell 1 rfl
    have HOW := Lib.hid hown
    have HMO := Lib.hid hmo
    have HML := Lib.hid hml
    have hml2 : mm ≤ j := by rw [← hml]; exact Nat.le_trans (List.length_filter_le _ _) (by rw [List.length_take]; omega)
    have hbo := HBK.out.keep hmo (fun e => e)
    have f1 := hbo.free 1
    have lq := hbo.lt
    have HBO := Lib.hid hbo
    clear hbo
    clear hown hmo hml
    by_cases hjl : j < ln
    case neg =>
      obtain rfl : j = ln := by omega
      have z0 : decide ((j : Int) < (j : Int)) = false := by simp
      have htk : L.take j = L := List.take_of_length_le (Nat.le_of_eq HLN.out)
      have how := HOW.out
      have hml := HML.out
      rw [htk] at how hml
      have HOX := Lib.hid how
      have HMX := Lib.hid hml
      clear htk how hml
      go_wp2_with fail
      refine bodyPost_end (results_none rfl _ _ _) rfl ?_
      have hq : (L.filter (fun b => decide (b.f ≠ v ∧ b.t ≠ v))) = cutN L v := rfl
      have h8 := HMX.out
      have h9 := HOX.out
      rw [hq] at h8 h9
      subst h8
      have hset := Mod.setCell (F := fun k => k = q) wo ⟨q, 1, none⟩ (.slice ag (cutN L v).length cg) rfl
      have hqw : q < w.heap.size := HBK.out.lt
      refine ⟨rfl, ⟨ag, cg, HBO.out.set 1 _, (Rd.ofOwn h9).keep hset (fun k hk e => by have := (h9.lt k hk).1; omega), fun k hk => ⟨fun e => ?_, .inr ⟨?_, ?_⟩⟩⟩, HMO.out.trans hset (fun _ _ e => e.elim) (fun _ _ e => e)⟩
      · have := (h9.lt k (by rw [← hk]; exact own_slice _ _ _ _ _)).1; omega
      · exact (h9.lt k (by rw [← hk]; exact own_slice _ _ _ _ _)).1
      · exact Nat.lt_of_lt_of_le (h9.lt k (by rw [← hk]; exact own_slice _ _ _ _ _)).2 hset.size
    case pos =>
      have z0 : decide ((j : Int) < (ln : Int)) = true := by simp; omega
      have hk1 : IntKind.i64.wrap ((j : Int) + 1) = ((j + 1 : Nat) : Int) := by rw [IntWalk.i64_in _ (by omega)]; omega
      have hjR : j < L.length := by rw [HLN.out]; exact hjl
      obtain ⟨eb, eo, hpe, e0, e1, e2, e3⟩ := rd4 (HR.out.keep HMO.out (fun _ _ e => e)) j hjR
      have hix := HIX.out j (by omega)
      rw [hpe] at hix
      obtain ⟨b, hb0⟩ : ∃ b, L[j] = b := ⟨_, rfl⟩
      rw [hb0] at e0 e1 e2 e3
      obtain ⟨bf, bt, bw, bm⟩ := b
      simp only at e0 e1 e2 e3
      have hst : (L.take (j + 1)).filter (fun b => decide (b.f ≠ v ∧ b.t ≠ v)) = (L.take j).filter (fun b => decide (b.f ≠ v ∧ b.t ≠ v)) ++ [(⟨bf, bt, bw, bm⟩ : Ar)].filter (fun b => decide (b.f ≠ v ∧ b.t ≠ v)) := by rw [take_at hjR, List.filter_append, hb0]
      have HK1 := Lib.hid hk1
      have HS0 := Lib.hid hst
      clear hst hb0 hpe hjR hk1
      by_cases c1 : bf = v
      · have x1 : (bf != v) = false := by simpa using c1
        have x2 : (bf == v) = true := by simpa using c1
        have hst : (L.take (j + 1)).filter (fun b => decide (b.f ≠ v ∧ b.t ≠ v)) = (L.take j).filter (fun b => decide (b.f ≠ v ∧ b.t ≠ v)) := by rw [HS0.out]; simp [c1]
        have HST := Lib.hid hst
        clear hst c1
        have hk1 := HK1.out
        go_wp2_with fail
        go_roundw
        case rel => exact ⟨j + 1, mm, ag, cg, rfl, rfl, by omega, by rw [HST.out]; exact HML.out, by rw [HST.out]; exact HOW.out, HMO.out⟩
        case measure => simp [intOf]; omega
      · have x1 : (bf != v) = true := by simpa using c1
        have x2 : (bf == v) = false := by simpa using c1
        by_cases c2 : bt = v
        · have x3 : (bt != v) = false := by simpa using c2
          have x4 : (bt == v) = true := by simpa using c2
          have hst : (L.take (j + 1)).filter (fun b => decide (b.f ≠ v ∧ b.t ≠ v)) = (L.take j).filter (fun b => decide (b.f ≠ v ∧ b.t ≠ v)) := by rw [HS0.out]; simp [c2]
          have HST := Lib.hid hst
          clear hst c1 c2
          have hk1 := HK1.out
          go_wp2_with fail
          go_roundw
          case rel => exact ⟨j + 1, mm, ag, cg, rfl, rfl, by omega, by rw [HST.out]; exact HML.out, by rw [HST.out]; exact HOW.out, HMO.out⟩
          case measure => simp [intOf]; omega
        · have x3 : (bt != v) = true := by simpa using c2
          have x4 : (bt == v) = false := by simpa using c2
          have hst : (L.take (j + 1)).filter (fun b => decide (b.f ≠ v ∧ b.t ≠ v)) = (L.take j).filter (fun b => decide (b.f ≠ v ∧ b.t ≠ v)) ++ [(⟨bf, bt, bw, bm⟩ : Ar)] := by rw [HS0.out]; simp [c1, c2]
          have hl7 : ((L.take (j + 1)).filter (fun b => decide (b.f ≠ v ∧ b.t ≠ v))).length = mm + 1 := by rw [hst, List.length_append, HML.out]; rfl
          have HST := Lib.hid hst
          have HL7 := Lib.hid hl7
          have hmx1 : mm + 1 ≤ maxLen := by unfold maxLen; omega
          clear hst hl7 c1 c2
          have hk1 := HK1.out
          have hob := fun o1 => Own.base (Own.keep HOW.out (Mod.alloc (fun _ => False) wo o1) (fun _ _ e => e)) (Nat.zero_le _)
          go_wp2_with (at_builtin; refine wpList_append_any rfl (.tmp 37) (.tmp 45) 34 rfl 50 iA (.agg #[.int .i64 0, .int .i64 0, .int .i64 0, .int .i64 0]) 4 32 Tryz.underlying34 hiA hzA hsA hbA rfl (by decide) _ mm (((L.take j).filter (fun b => decide (b.f ≠ v ∧ b.t ≠ v))).flatMap c4) rfl (hob _) _ 1 [.int .i64 bf, .int .i64 bt, .int .i64 bw, .int .i64 bm] rfl (by exact Rd.litN 50 4 [.int .i64 bf, .int .i64 bt, .int .i64 bw, .int .i64 bm] (0, 0) _ 1 (by first | rfl | simp) rfl (by decide)) (by intro u hu; simp at hu; rcases hu with rfl | rfl | rfl | rfl <;> rfl) hmx1 (by omega) ?_; intro v7 w7 hap; obtain ⟨a7, c7, rfl⟩ := hap.form; have HAPP := Lib.hid hap; clear hap hob)
          have hlow : ∀ q, (Value.slice ag mm cg).ownBlock = some q → w.heap.size ≤ q := fun q hq => (HOW.out.lt q hq).1
          have hs2 : w.heap.size ≤ wo.heap.size := HMO.out.size
          have ho7 := HAPP.out.own
          have lo7 := HAPP.out.low (B := w.heap.size) (by simp; omega) hlow
          have hm7 := HAPP.out.modOld (W0 := w) (HMO.out.of2 (Mod.alloc (fun _ => False) wo _)) hlow
          have hx7 : ((L.take j).filter (fun b => decide (b.f ≠ v ∧ b.t ≠ v))).flatMap c4 ++ [.int .i64 bf, .int .i64 bt, .int .i64 bw, .int .i64 bm] = ((L.take (j + 1)).filter (fun b => decide (b.f ≠ v ∧ b.t ≠ v))).flatMap c4 := by rw [HST.out, List.flatMap_append]; rfl
          rw [hx7] at ho7
          have HO7 := Lib.hid (Own.rebase ho7 lo7)
          have HM7 := Lib.hid hm7
          clear ho7 lo7 hm7 hx7 hlow hs2
          go_wp2_with fail
          go_roundw
          case rel => exact ⟨j + 1, mm + 1, a7, c7, rfl, rfl, by omega, HL7.out, HO7.out, HM7.out⟩
          case measure => simp [intOf]; omega
set_option maxHeartbeats 8000000 in
theorem rn_out {w : World} {q n : Nat} {L : List Ar} (h : RN w q n L) (hok : NetOk n L) (hb : L.length ≤ 10000) (v : Int) : Calls Tryz.prog 63 #[.pointer (some ⟨q, 0, none⟩), .int .i64 v] w fun e w' => NewR 50 4 (outL L v).length ((outL L v).flatMap c4) w e w' := by
  have HFI := Lib.hid (rn_find h hok.sort (by omega) v (-1))
  obtain ⟨p, hp⟩ : ∃ p, posN L ⟨v, -1, 0, 0⟩ = p := ⟨_, rfl⟩
  have hlo : ∀ i (h : i < L.length), i < p → L[i].f ≠ v := fun i hi h e => by
    have h1 := posN_lt hok.sort ⟨v, -1, 0, 0⟩ i hi (by rw [hp]; exact h)
    have h2 := (hok.may _ (List.getElem_mem hi)).2.2.1
    unfold keyLt at h1; simp only at h1; omega
  have hhi : ∀ i j (hj : j < L.length) (hij : i ≤ j), p ≤ i → (L[i]'(by omega)).f ≠ v → L[j].f ≠ v := fun i j hj hij hpi hne e => by
    have h1 := posN_ge hok.sort ⟨v, -1, 0, 0⟩ i (by omega) (by rw [hp]; exact hpi)
    unfold keyLt at h1; simp only at h1
    rcases Nat.eq_or_lt_of_le hij with rfl | hlt
    · exact hne e
    · have h2 := List.pairwise_iff_getElem.1 hok.sort i j (by omega) hj hlt
      unfold keyLt at h2; omega
  have hpl := posN_le L ⟨v, -1, 0, 0⟩
  rw [hp] at HFI hpl
  have HLO := Lib.hid hlo
  have HHI := Lib.hid hhi
  obtain ⟨a, c, hbk, hr, _⟩ := h
  obtain ⟨iA, hiA, hzA, hsA, hbA⟩ := info_parts Nt.infoA
  obtain ⟨ln, hln⟩ : ∃ x, L.length = x := ⟨_, rfl⟩
  rw [hln] at hbk hr hb
  have HIX := Lib.hid (fun (k : Nat) (hk : k < ln) wx => run_indexS (P := Tryz.prog) wx 34 50 iA 4 Tryz.underlying34 hiA hsA a ln c k hk (hr.some_ (by omega)))
  have HBK := Lib.hid hbk
  have HR := Lib.hid hr
  have HLN := Lib.hid hln
  rw [hln] at hpl
  clear hbk hr hln hlo hhi hok hp
  go_enter Tryz.func63, Tryz.ntmps63
  go_wp2_with fail
  refine HFI.out.mono ?_
  rintro e w1 ⟨rfl, hm1⟩
  have HM1 := Lib.hid hm1
  clear hm1 HFI
  go_wp2_with fail
  go_loopw [5, 7] (fun jv gv wr => ∃ (k : Nat) (ag : Option Addr) (cg : Nat), gv = .slice ag k cg ∧ jv = .int .i64 ((p + k : Nat) : Int) ∧ p + k ≤ ln ∧ (∀ i (h : i < L.length), p ≤ i → i < p + k → L[i].f = v) ∧ wr.ownsRow w.heap.size 50 4 (.slice ag k cg) k (((L.drop p).take k).flatMap c4) ∧ Mod (fun _ => False) w wr) (fun jv _ _ => ln - (intOf jv).toNat)
  case atStart => exact ⟨0, none, 0, rfl, rfl, hpl, fun i h h1 h2 => by omega, World.ownsRow_nil _ _ _ _, HM1.out⟩
  case round =>
    obtain ⟨mm, ag, cg, rfl, rfl, hj, hall, hown, hmo⟩ := hrel
    obtain ⟨wo, hwo⟩ : ∃ x : World, x = wr := ⟨_, rfl⟩
    subst hwo
    have q1 := (HBK.out.keep hmo (fun e => e)).cell 1 rfl
    have HOW := Lib.hid hown
    have HMO := Lib.hid hmo
    have HALL := Lib.hid hall
    clear hown hmo hall
    have hend : (∀ i (h : i < L.length), p + mm ≤ i → L[i].f ≠ v) → NewR 50 4 (outL L v).length ((outL L v).flatMap c4) w (.returned (.slice ag mm cg)) wo := fun h3 => by
      have hq := out_part HLO.out HALL.out h3
      have hl : ((L.drop p).take mm).length = mm := by rw [List.length_take, List.length_drop, HLN.out]; omega
      rw [hq, hl]
      exact ⟨ag, cg, rfl, HOW.out, HMO.out⟩
    have HEND := Lib.hid hend
    clear hend
    obtain ⟨j, hjv⟩ : ∃ j, p + mm = j := ⟨_, rfl⟩
    have HJV := Lib.hid hjv
    rw [hjv] at hj HEND HALL ⊢
    by_cases hjl : j < ln
    case neg =>
      obtain rfl : j = ln := by omega
      have z0 : decide ((j : Int) < (j : Int)) = false := by simp
      clear hjv
      go_wp2_with fail
      go_ret
      exact HEND.out (fun i h h1 => by rw [HLN.out] at h; omega)
    case pos =>
      have z0 : decide ((j : Int) < (ln : Int)) = true := by simp; omega
      have hk1 : IntKind.i64.wrap ((j : Int) + 1) = ((j + 1 : Nat) : Int) := by rw [IntWalk.i64_in _ (by omega)]; omega
      have hjR : j < L.length := by rw [HLN.out]; exact hjl
      have hpj : p ≤ j := by omega
      have hmj : mm ≤ j := by omega
      obtain ⟨eb, eo, hpe, e0, e1, e2, e3⟩ := rd4 (HR.out.keep HMO.out (fun _ _ e => e)) j hjR
      have hix := HIX.out j (by omega)
      rw [hpe] at hix
      obtain ⟨b, hb0⟩ : ∃ b, L[j] = b := ⟨_, rfl⟩
      rw [hb0] at e0 e1 e2 e3
      obtain ⟨bf, bt, bw, bm⟩ := b
      simp only at e0 e1 e2 e3
      have hst : (L.drop p).take (mm + 1) = (L.drop p).take mm ++ [(⟨bf, bt, bw, bm⟩ : Ar)] := by
        have hdl : mm < (L.drop p).length := by rw [List.length_drop]; omega
        rw [List.take_succ_eq_append_getElem hdl, List.getElem_drop]
        subst hjv
        rw [hb0]
      have hhi : ∀ i (h : i < L.length), j ≤ i → p ≤ j → bf ≠ v → L[i].f ≠ v := fun i h hji hpj hne => HHI.out j i h hji hpj (by rw [hb0]; exact hne)
      have hbf : ∀ (h : j < L.length), L[j].f = bf := fun _ => congrArg Ar.f hb0
      have HBF := Lib.hid hbf
      have HH2 := Lib.hid hhi
      have HK1 := Lib.hid hk1
      have HST := Lib.hid hst
      clear hst hb0 hpe hjR hk1 hjv hhi hbf
      by_cases c1 : bf = v
      · have x1 : (bf == v) = true := by simpa using c1
        have hall : ∀ i (h : i < L.length), p ≤ i → i < p + (mm + 1) → L[i].f = v := fun i h h1 h2 => by
          have h5 := HJV.out
          by_cases h6 : i = j
          · subst h6; rw [HBF.out h]; exact c1
          · exact HALL.out i h h1 (by omega)
        have HAL := Lib.hid hall
        have hmx1 : mm + 1 ≤ maxLen := by unfold maxLen; omega
        have hk1 := HK1.out
        clear c1 hall hpj
        have hob := fun o1 => Own.base (Own.keep HOW.out (Mod.alloc (fun _ => False) wo o1) (fun _ _ e => e)) (Nat.zero_le _)
        go_wp2_with (at_builtin; refine wpList_append_any rfl (.tmp 35) (.tmp 43) 34 rfl 50 iA (.agg #[.int .i64 0, .int .i64 0, .int .i64 0, .int .i64 0]) 4 32 Tryz.underlying34 hiA hzA hsA hbA rfl (by decide) _ mm (((L.drop p).take mm).flatMap c4) rfl (hob _) _ 1 [.int .i64 bf, .int .i64 bt, .int .i64 bw, .int .i64 bm] rfl (by exact Rd.litN 50 4 [.int .i64 bf, .int .i64 bt, .int .i64 bw, .int .i64 bm] (0, 0) _ 1 (by first | rfl | simp) rfl (by decide)) (by intro u hu; simp at hu; rcases hu with rfl | rfl | rfl | rfl <;> rfl) hmx1 (by omega) ?_; intro v7 w7 hap; obtain ⟨a7, c7, rfl⟩ := hap.form; have HAPP := Lib.hid hap; clear hap hob)
        have hlow : ∀ q, (Value.slice ag mm cg).ownBlock = some q → w.heap.size ≤ q := fun q hq => (HOW.out.lt q hq).1
        have hs2 : w.heap.size ≤ wo.heap.size := HMO.out.size
        have ho7 := HAPP.out.own
        have lo7 := HAPP.out.low (B := w.heap.size) (by simp; omega) hlow
        have hm7 := HAPP.out.modOld (W0 := w) (HMO.out.of2 (Mod.alloc (fun _ => False) wo _)) hlow
        have hx7 : ((L.drop p).take mm).flatMap c4 ++ [.int .i64 bf, .int .i64 bt, .int .i64 bw, .int .i64 bm] = ((L.drop p).take (mm + 1)).flatMap c4 := by rw [HST.out, List.flatMap_append]; rfl
        rw [hx7] at ho7
        have HO7 := Lib.hid (Own.rebase ho7 lo7)
        have HM7 := Lib.hid hm7
        clear ho7 lo7 hm7 hx7 hlow hs2
        go_wp2_with fail
        go_roundw
        case rel => exact ⟨mm + 1, a7, c7, rfl, by rw [show p + (mm + 1) = j + 1 from by have := HJV.out; omega]; go_num, by have := HJV.out; omega, HAL.out, HO7.out, HM7.out⟩
        case measure => simp [intOf]; omega
      · have x1 : (bf == v) = false := by simpa using c1
        have hno : ∀ i (h : i < L.length), j ≤ i → L[i].f ≠ v := fun i h h1 => HH2.out i h h1 hpj c1
        have HNO := Lib.hid hno
        clear c1 hno hpj
        go_wp2_with fail
        go_ret
        exact HEND.out HNO.out
end Go.Proofs.YtjjedebjbgpimaaGreat
