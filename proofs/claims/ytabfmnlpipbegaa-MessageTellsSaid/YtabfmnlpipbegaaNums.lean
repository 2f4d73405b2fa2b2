/- Contracts of package octets: Writer.Nums. -/
import Derived.Test.YtabfmnlpipbegaaOct
namespace Go.Proofs.Ytabfmnlpipbegaa
open Go.RowKit Mile
set_option maxRecDepth 100000

set_option maxHeartbeats 1000000 in
theorem nums_go (p : Nat) (w : World) (bs : List Int) (F : Nat → Prop) (h : Wr w p (some bs) F) (size : Int) (hs1 : 1 ≤ size) (hs2 : size ≤ 7) (b off c : Nat) (ns : List Int)
    (hrd : Rd w 1 (.slice (some ⟨b, off, none⟩) ns.length c) ns.length (ns.map (Value.int .i64))) (hb : F b → ns = []) (hbd : bs.length + 7 * ns.length ≤ 1000000000) :
    Calls Try.prog 25 #[.pointer (some ⟨p, 0, none⟩), .int .i64 size, .slice (some ⟨b, off, none⟩) ns.length c] w fun e w' =>
      e = .returned (.pointer (some ⟨p, 0, none⟩)) ∧ ∃ F', Wr w' p (numsL size.toNat bs ns) F' ∧ After w w' F F' := by
  obtain ⟨i0, hi, hz0, hz1, hz2⟩ := info_parts Oct.info5
  have f1 : w.cell? ⟨p, 1, none⟩ = some (.bool false) := by obtain ⟨v, h1, _⟩ := h; exact h1.cell 1 rfl
  have hlb : (ns.length : Int) ≤ 1000000000 := by omega
  have hok : sizeOk size = true := by simp [sizeOk, hs1, hs2]
  go_enter Try.func25, Try.ntmps25
  go_wp2_with (go_at_call 41; refine (sizeFits_any _ _).mono ?_; rintro e w' ⟨rfl, rfl⟩)
  go_loopw [26] (fun i wr => ∃ (k : Nat) (bk : List Int) (Fk : Nat → Prop), k ≤ ns.length ∧ i = .int .i64 k ∧ Wr wr p (some bk) Fk ∧ After w wr F Fk ∧ numsL size.toNat bs ns = numsL size.toNat bk (ns.drop k) ∧ bk.length + 7 * (ns.length - k) ≤ 1000000000)
    (fun i _ => ns.length - (intOf i).toNat)
  case atStart => exact ⟨0, bs, F, Nat.zero_le _, rfl, h, ⟨Mod.refl _ _, fun _ e => .inl e⟩, by simp, by omega⟩
  case round =>
    obtain ⟨k, bk, Fk, hk, rfl, hW, hA, hN, hL⟩ := hrel
    by_cases hlt : k < ns.length
    · have hcell : wr.cell? ⟨b, off + k, none⟩ = some (.int .i64 ns[k]) := by
        have hr := hrd.keep hA.1 (fun j hj => by simp [Value.ownBlock] at hj; subst hj; exact fun hf => by rw [hb hf] at hlt; simp at hlt)
        obtain ⟨_, a', c', he, _, _, _, hc⟩ := hr
        cases he
        have := (hc _ rfl).2 k (.int .i64 ns[k]) (by simp [hlt])
        rwa [Addr.add_lit] at this
      clear hrd h
      by_cases hf : fits size.toNat ns[k] = true
      · go_wp2_with (first | (go_at_call 43; refine (numFits_any _ _ _ hs1 hs2).mono ?_; rintro e w' ⟨rfl, rfl⟩))
        go_loopw [9] (fun i ws => ∃ (j : Nat) (P : List Int) (Fj : Nat → Prop), (j : Int) ≤ size ∧ i = .int .i64 ((j : Int) - 1) ∧ Wr ws p (some (bk ++ P)) Fj ∧ After w ws F Fj ∧ P ++ digs ns[k] j = digs ns[k] size.toNat)
          (fun i _ => (intOf i + 1).toNat)
        case atStart => exact ⟨size.toNat, [], Fk, by omega, by rw [Int.toNat_of_nonneg (by omega)], by simpa using hW, hA, by simp⟩
        case round =>
          obtain ⟨j, P, Fj, hj, rfl, hWj, hAj, hD⟩ := hrel
          by_cases hj0 : 1 ≤ j
          · obtain ⟨a, rfl⟩ : ∃ a, j = a + 1 := ⟨j - 1, by omega⟩
            have e1 : ((a + 1 : Nat) : Int) - 1 = (a : Int) := by omega
            rw [e1]
            clear e1
            have ha1 : (a : Int) < 7 := by omega
            obtain ⟨v, h1, h2, h3, h4, h5⟩ := hWj
            have hp := h5 p h3
            have c0 : wr.cell? ⟨p, 0, none⟩ = some v := h1.cell 0 rfl
            have d0 := h1.free 0
            have e8 : IntKind.i64.wrap (8 * (a : Int)) = 8 * (a : Int) := IntWalk.i64_in _ (by omega)
            have hown : wr.ownsRow 0 5 1 v (bk ++ P).length ((bk ++ P).map (Value.int .u8)) := h2
            have hm1 : (bk ++ P).length + 1 ≤ maxLen := by have := digs_length ns[k] (a + 1); have := congrArg List.length hD; simp [digs_length] at this ⊢; unfold maxLen; omega
            have hm2 : ((bk ++ P).length + 1) * 1 ≤ 140737488355328 := by have := congrArg List.length hD; simp [digs_length] at this ⊢; omega
            have hx0 : 0 ≤ ns[k] := by simp [fits] at hf; exact hf.1
            go_wp2_with fail
            go_region_law (
              refine step_append_any rfl (.tmp 46) (.tmp 52) 27 rfl 5 i0 (.int .u8 0) 1 1 Try.underlying27 hi hz0 hz1 hz2 rfl (by decide) v (bk ++ P).length ((bk ++ P).map (Value.int .u8)) (by simp [Act.eval]) (by exact (World.ownsRow.alloc hown _).drew)
                (.slice (some ⟨wr.heap.size, 0, none⟩) 1 1) 1 [.int .u8 (IntKind.u8.wrap (ns[k] / 2 ^ (8 * (a : Int)).toNat))] (by simp [Act.eval]) (by exact (Rd.one wr _ _).drew) (by simp [Value.oneCell']) hm1 hm2 ?_
              intro v' w' hap
              obtain ⟨a1, c1, rfl⟩ := hap.form
              have hb1 : Blk w' p 59 [v, .bool false] := (h1.alloc _).drew.keep hap.mod (fun e => (h4 p e).2 rfl)
              have c1' : w'.cell? ⟨p, 0, none⟩ = some v := hb1.cell 0 rfl
              have d1' := hb1.free 0)
            all_goals
              go_wp2
              go_roundw
              case rel =>
                obtain ⟨F', hW', hA'⟩ := Wr.pushed (new := [IntKind.u8.wrap (ns[k] / 2 ^ (8 * (a : Int)).toNat)]) h1 h3 h4 (((Mod.refl _ _).thenAlloc _).thenDrew) hap
                have hx : IntKind.u8.wrap (ns[k] / 2 ^ (8 * (a : Int)).toNat) = ns[k] / 2 ^ (8 * a) % 256 := by
                  rw [show (8 * (a : Int)).toNat = 8 * a by omega]; rfl
                rw [hx] at hW'
                simp only [List.length_append] at hA' hW'
                refine ⟨a, P ++ [ns[k] / 2 ^ (8 * a) % 256], F', by omega, rfl, ?_, hAj.trans hA', by simpa [digs] using hD⟩
                simpa using hW'
              case measure => simp [intOf]
          · obtain rfl : j = 0 := by omega
            have hkk : (k : Int) < 1000000000 := by omega
            go_wp2
            go_roundw
            case rel =>
              have hP : P = digs ns[k] size.toNat := by simpa [digs] using hD
              subst hP
              have hd : ns.drop k = ns[k] :: ns.drop (k + 1) := (List.drop_eq_getElem_cons hlt)
              refine ⟨k + 1, _, Fj, hlt, by go_num, hWj, hAj, ?_, ?_⟩
              · rw [hN, hd, numsL, if_pos hf]
              · simp [digs_length]; omega
            case measure => simp [intOf]; omega
      · go_wp2_with (first | (go_at_call 43; refine (numFits_any _ _ _ hs1 hs2).mono ?_; rintro e w' ⟨rfl, rfl⟩) | (go_at_call 42; refine (spoil_any p _ _ _ hW).mono ?_; rintro e w' ⟨rfl, hW', hA'⟩))
        go_ret
        have hd : ns.drop k = ns[k] :: ns.drop (k + 1) := (List.drop_eq_getElem_cons hlt)
        refine ⟨rfl, Fk, ?_, hA.trans hA'⟩
        rw [hN, hd, numsL, if_neg hf]
        exact hW'
    · go_wp2
      go_ret
      have : k = ns.length := by omega
      subst this
      refine ⟨rfl, Fk, ?_, hA⟩
      rw [hN, List.drop_length, numsL]
      exact hW

end Go.Proofs.Ytabfmnlpipbegaa
