/- The law FrameTurned, walked. -/
import Derived.Test.YtgcegdeeoijbgaaBack3
import Derived.Test.YtgcegdeeoijbgaaTwo
import Derived.Laws.OwnMore
namespace Mile
open Go Go.RowKit
theorem opens_array3 {α : Type} {P : Program} {t e : TypeId} {E : Enc α} (ht : P.underlying t = some (.array 3 e)) (hc : P.cellsOf t = E.cells + (E.cells + E.cells)) (hce : P.cellsOf e = E.cells) (hE : Opens P e E) : Opens P t (encPair E (encPair E E)) := by
  intro H enc w base spare held fuel cs x h
  obtain ⟨xs, m, _, _, hl, hxl, hf⟩ := DataW.trod_array ht h
  have h0 := hf 0 (by omega)
  have h1 := hf 1 (by omega)
  have h2 := hf 2 (by omega)
  rw [List.getElem?_eq_getElem (show 0 < xs.length by omega)] at h0
  rw [List.getElem?_eq_getElem (show 1 < xs.length by omega)] at h1
  rw [List.getElem?_eq_getElem (show 2 < xs.length by omega)] at h2
  rw [hce] at h0 h1 h2
  obtain ⟨a, ha, hoka⟩ := hE H enc w base spare held m _ _ h0
  obtain ⟨b, hb, hokb⟩ := hE H enc w base spare held m _ _ h1
  obtain ⟨c, hc', hokc⟩ := hE H enc w base spare held m _ _ h2
  refine ⟨(a, b, c), ?_, hoka, hokb, hokc⟩
  show cs = E.img a ++ (E.img b ++ E.img c)
  rw [← ha, ← hb, ← hc']
  simp only [Nat.zero_mul, List.drop_zero, Nat.one_mul]
  rw [List.take_of_length_le (show (cs.drop (2 * E.cells)).length ≤ E.cells by rw [List.length_drop]; omega), show 2 * E.cells = E.cells + E.cells by omega, ← List.drop_drop, List.take_append_drop, List.take_append_drop]

theorem foldl_flip_len : ∀ (ps : List (Nat × Nat)) (l : List Int), (ps.foldl flipL l).length = l.length
  | [], _ => rfl
  | p :: ps, l => by rw [List.foldl_cons, foldl_flip_len ps, flipL_len]
theorem foldl_flip_bytes : ∀ (ps : List (Nat × Nat)) (l : List Int), (∀ x ∈ l, 0 ≤ x ∧ x < 256) → ∀ x ∈ ps.foldl flipL l, 0 ≤ x ∧ x < 256
  | [], _, h => h
  | p :: ps, l, h => foldl_flip_bytes ps _ (flipL_bytes h)
theorem foldl_flip_at {i : Nat} : ∀ (ps : List (Nat × Nat)) (l : List Int), (∀ p ∈ ps, p.1 ≠ i) → (ps.foldl flipL l).getD i 0 = l.getD i 0
  | [], _, _ => rfl
  | p :: ps, l, h => by
    rw [List.foldl_cons, foldl_flip_at ps _ (fun q hq => h q (List.mem_cons_of_mem _ hq))]
    unfold flipL
    simp only [List.getD, List.getElem?_set_ne (h p List.mem_cons_self)]
/-- A frame with one to three bits turned, but in its length, is none, or is as it was. -/
theorem turned {kd : Int} {body b : List Int} (hk : 0 ≤ kd ∧ kd < 256) (hbb : ∀ x ∈ body, 0 ≤ x ∧ x < 256) (hn : body.length ≤ 400) (hbd : frL (hdL kd body) = b) (ps : List (Nat × Nat)) (hps : ps.length ≤ 3) (hok : ∀ p ∈ ps, (p.1 < body.length + 9 ∧ p.2 < 8) ∧ p.1 ≠ 3 ∧ p.1 ≠ 4) :
    ps.foldl flipL b = b ∨ unS (ps.foldl flipL b) = ((0, []), 2) := by
  by_cases hf : framed (ps.foldl flipL b)
  · left
    have hbl : b.length = (body.length + 5) + 4 := by rw [← hbd, fr_len, hd_len]
    have hbr : ∀ x ∈ b, 0 ≤ x ∧ x < 256 := by rw [← hbd]; exact fr_range (hd_range hk hbb)
    have h5 : 5 ≤ (hdL kd body).length := by rw [hd_len]; omega
    have hfb : framed b := by
      rw [← hbd]
      refine (framed_fr h5).2 ⟨hd_long (by omega), ?_⟩
      rw [hd_form]; rfl
    have hl := foldl_flip_len ps b
    have z1 := hf.2.2
    have z0 := hfb.2.2
    rw [hl, hbl, Nat.add_sub_cancel] at z1
    rw [hbl, Nat.add_sub_cancel] at z0
    obtain ⟨a1, a2⟩ := lack_zero (m := body.length + 5) hbl hbr z0
    obtain ⟨c1, c2⟩ := lack_zero (m := body.length + 5) (by rw [hl]; exact hbl) (foldl_flip_bytes ps b hbr) z1
    exact flips_seen (by omega) hbl hbr a1 a2 ps hps (fun p hp => ⟨by have := (hok p hp).1.1; omega, (hok p hp).1.2⟩) c1 c2
  · exact Or.inr (unS_bad hf)
theorem strOf_inj {cs bs : List Int} (hc : ∀ x ∈ cs, 0 ≤ x ∧ x < 256) (hb : ∀ x ∈ bs, 0 ≤ x ∧ x < 256) (h : strOf cs = strOf bs) : cs = bs := by
  have key : ∀ (l : List Int) (r : ByteArray), (l.foldl (fun r n => r.push (UInt8.ofNat n.toNat)) r).data.toList = r.data.toList ++ l.map (fun n => UInt8.ofNat n.toNat) := by
    intro l
    induction l with
    | nil => intro r; simp
    | cons n l ih => intro r; rw [List.foldl_cons, ih]; simp
  have e1 := key cs ByteArray.empty
  have e2 := key bs ByteArray.empty
  have h' : (cs.foldl (fun r n => r.push (UInt8.ofNat n.toNat)) ByteArray.empty).data.toList = (bs.foldl (fun r n => r.push (UInt8.ofNat n.toNat)) ByteArray.empty).data.toList := by
    have : strOf cs = strOf bs := h
    unfold strOf at this; rw [this]
  rw [e1, e2, List.append_cancel_left_eq] at h'
  clear e1 e2 h key
  induction cs generalizing bs with
  | nil => cases bs with
    | nil => rfl
    | cons b bs => simp at h'
  | cons c cs ih =>
    cases bs with
    | nil => simp at h'
    | cons b bs =>
      simp only [List.map_cons, List.cons.injEq] at h'
      have h1 := hc c (by simp)
      have h2 := hb b (by simp)
      have h3 := congrArg UInt8.toNat h'.1
      simp at h3
      rw [ih (fun x hx => hc x (by simp [hx])) (fun x hx => hb x (by simp [hx])) h'.2, show c = b by omega]
theorem bytes_beq_ne {a b : ByteArray} (h : a ≠ b) : (a == b) = false := by
  cases a with
  | mk x =>
    cases b with
    | mk y =>
      show (x == y) = false
      rw [beq_eq_false_iff_ne]
      intro e; exact h (by rw [e])
end Mile
namespace Go.Proofs.Ytgcegdeeoijbgaa
open Go.RowKit Mile

theorem opens_three : Opens Try.prog 39 (encPair (encInt .i64) (encPair (encInt .i64) (encInt .i64))) := opens_array3 Try.underlying39 (by kernel_rfl) (by kernel_rfl) (opens_int Try.underlying3)
theorem own_some3' {w : World} {base : Nat} {e : TypeId} {size : Nat} {a : Option Addr} {n c : Nat} {xs : List Value} (h : w.ownsRow base e size (.slice a n c) n xs) (hn : 0 < n) : ∃ g, a = some ⟨g, 0, none⟩ := by
  rcases h.2 with ⟨h', _⟩ | ⟨g, cap, cur, h', _⟩
  · simp only [Value.slice.injEq] at h'; omega
  · cases h'; exact ⟨g, rfl⟩

set_option maxHeartbeats 8000000 in
set_option maxRecDepth 100000 in
theorem fturn_walk (w : World) (kind : Int) (a : Option Addr) (n c : Nat) (body : List Int) (hn : body.length = n) (hr : Rd w 1 (.slice a n c) n (body.map (Value.int .u8))) (hb : ∀ x ∈ body, 0 ≤ x ∧ x < 256) (x y z : Int) :
    Calls Try.prog 5 #[.int .i64 kind, .slice a n c, .agg #[.int .i64 x, .int .i64 y, .int .i64 z]] w fun e w' => e = .returned (.bool true) ∧ Mod (fun _ => False) w w' := by
  obtain ⟨i0, hi, hz0, hz1, hz2⟩ := info_parts Chk.info5
  by_cases h5 : 400 < n
  · go_enter Try.func5, Try.ntmps5
    go_wp2_with fail
    refine (awake_any _).mono ?_
    rintro e w9 ⟨rfl, hM9⟩
    have HM := Lib.hid ((Mod.alloc (fun _ => False) w (.cells #[.int .i64 x, .int .i64 y, .int .i64 z] 39)).trans hM9 (H := fun _ => False) (fun _ _ e => e) (fun _ _ e => e))
    clear hM9
    go_wp2_with fail
    go_ret
    exact ⟨rfl, HM.out⟩
  have q1 : n ≤ 400 := by omega
  clear h5
  have HN := Lib.hid hn
  have HB := Lib.hid hb
  clear hn hb
  have k1 := Int.emod_nonneg kind (show (256 : Int) ≠ 0 by omega)
  have k2 := Int.emod_lt_of_pos kind (show (0 : Int) < 256 by omega)
  obtain ⟨kd, hkd⟩ : ∃ kd, kind % 256 = kd := ⟨_, rfl⟩
  rw [hkd] at k1 k2
  have HKD := Lib.hid hkd
  clear hkd
  obtain ⟨b, hbd⟩ : ∃ b, frL (hdL kd body) = b := ⟨_, rfl⟩
  have hbl : b.length = n + 9 := by rw [← hbd, fr_len, hd_len, HN.out]
  have hbr : ∀ x ∈ b, 0 ≤ x ∧ x < 256 := by rw [← hbd]; exact fr_range (hd_range ⟨k1, k2⟩ HB.out)
  have hu1 : unS b = ((kd, body), 0) := by rw [← hbd]; exact unS_wrap (by rw [HN.out]; omega)
  have HU1 := Lib.hid hu1
  have HBL := Lib.hid hbl
  have HBR := Lib.hid hbr
  clear hbl hbr hu1
  have hA0 := Mod.alloc (fun _ => False) w (.cells #[.int .i64 x, .int .i64 y, .int .i64 z] 39)
  have hbox0 : Blk (w.alloc (.cells #[.int .i64 x, .int .i64 y, .int .i64 z] 39)) w.heap.size 39 [.int .i64 x, .int .i64 y, .int .i64 z] := Blk.new w 39 [.int .i64 x, .int .i64 y, .int .i64 z]
  have h1c : ∀ u ∈ b.map (Value.int .u8), u.oneCell' = true := by intro u hu; simp at hu; obtain ⟨x, _, rfl⟩ := hu; rfl
  have hap1 : 0 + (n + 9) ≤ maxLen := by unfold maxLen; omega
  have hap2 : (0 + (n + 9)) * 1 ≤ 140737488355328 := by omega
  have z0 : decide ((n : Int) + 9 < 9) = false := by simp; omega
  go_enter Try.func5, Try.ntmps5
  go_wp2_with fail
  refine (round_any _ _ _ (by omega) (by omega)).mono ?_
  rintro e w' ⟨rfl, rfl⟩
  rw [HKD.out]
  go_wp2_with fail
  refine (wrap_ok _ kd ⟨k1, k2⟩ a n c body HN.out (hr.alloc _) HB.out (by omega)).mono ?_
  rw [hbd]
  rintro e w1 ⟨a1, c1, rfl, hF1, hM1⟩
  have HBD := Lib.hid hbd
  clear hbd
  have hr1 := Rd.ofOwn hF1
  have hbox1 := hbox0.keep hM1 (fun e => e)
  have hM01 := hA0.trans hM1 (H := fun _ => False) (fun _ _ e => e) (fun _ _ e => e)
  have hsz : w.heap.size < w1.heap.size := hbox1.lt
  have HO1 : Hid (∀ k, (Value.slice a1 (n + 9) c1).ownBlock = some k → k < w1.heap.size) := Lib.hid fun k hk => (hF1.lt k hk).2
  clear hA0 hbox0 hM1 hF1
  go_wp2_with (at_builtin; refine wpList_append_any rfl (.tmp 33) (.tmp 34) 22 rfl 5 i0 (.int .u8 0) 1 1 Try.underlying22 hi hz0 hz1 hz2 rfl (by decide) _ 0 [] rfl (own_empty _ _ _ _ (by simp)) _ (n + 9) (b.map (Value.int .u8)) rfl (hr1.alloc _) h1c hap1 hap2 ?_; intro v4 w4 hap; obtain ⟨a4, c4, rfl⟩ := hap.form; have ho4 := hap.own; have hl4 := hap.low (B := w1.heap.size) (by simp) (low_lit (Nat.le_refl _)); have hm4 := hap.modOld (Mod.alloc (fun _ => False) w1 _) (low_lit (Nat.le_refl _)); simp only [Nat.zero_add, List.nil_append] at ho4 hl4; clear hap; obtain ⟨g, rfl⟩ := own_some3' ho4 (by omega); have hg := hl4 g rfl)
  have hgw : w.heap.size < g := by omega
  have HNE : Hid (∀ k, (Value.slice a1 (n + 9) c1).ownBlock = some k → ¬ k = g) := Lib.hid fun k hk e => by have := HO1.out k hk; omega
  have hbox4 := hbox1.keep hm4 (fun e => e)
  have hM4 := hM01.trans hm4 (H := fun _ => False) (fun _ _ e => e) (fun _ _ e => e)
  have hr4 := Lib.hid (hr1.keepA hm4 (fun _ _ e => e.elim))
  clear hr1 hl4 hbox1 hM01 hm4 hg hsz h1c hap1 hap2
  go_loopw [10, 11] (fun i _ wr => ∃ (j : Nat) (ps : List (Nat × Nat)), j ≤ 3 ∧ i = .int .i64 j ∧ (ps.length ≤ j ∧ ∀ p ∈ ps, (p.1 < n + 9 ∧ p.2 < 8) ∧ p.1 ≠ 3 ∧ p.1 ≠ 4) ∧ wr.ownsRow 0 5 1 (.slice (some ⟨g, 0, none⟩) (n + 9) c4) (n + 9) ((ps.foldl flipL b).map (Value.int .u8)) ∧
      Blk wr w.heap.size 39 [.int .i64 x, .int .i64 y, .int .i64 z] ∧ Mod (fun k => k = g) w4 wr) (fun i _ _ => 3 - (intOf i).toNat)
  case atStart => exact ⟨0, [], by omega, rfl, ⟨by simp, by simp⟩, ho4, hbox4, Mod.refl _ _⟩
  case round =>
    clear ho4 hbox4
    obtain ⟨j, ps, hj, rfl, hps, hown, hbox, hM⟩ := hrel
    have HPS := Lib.hid hps
    clear hps
    have hcl := foldl_flip_len ps b
    rw [HBL.out] at hcl
    have hcb := foldl_flip_bytes ps b HBR.out
    obtain ⟨cs, hcs⟩ : ∃ cs, ps.foldl flipL b = cs := ⟨_, rfl⟩
    rw [hcs] at hown hcl hcb
    have HCL := Lib.hid hcl
    have HCS := Lib.hid hcs
    clear hcl hcs
    by_cases hlt : j < 3
    · obtain ⟨u, hu⟩ : ∃ u, wr.cell? ⟨w.heap.size, j, none⟩ = some (.int .i64 u) := by
        have : j = 0 ∨ j = 1 ∨ j = 2 := by omega
        rcases this with rfl | rfl | rfl
        · exact ⟨x, hbox.cell 0 rfl⟩
        · exact ⟨y, hbox.cell 1 rfl⟩
        · exact ⟨z, hbox.cell 2 rfl⟩
      have hmod := Int.emod_nonneg u (show (8 * ((n : Int) + 9)) ≠ 0 by omega)
      have hmod2 := Int.emod_lt_of_pos u (show 0 < (8 * ((n : Int) + 9)) by omega)
      obtain ⟨m, hm⟩ := Int.eq_ofNat_of_zero_le hmod
      have hmn : m < 8 * (n + 9) := by omega
      have HM := Lib.hid hm
      clear hmod hmod2 hm
      obtain ⟨q, hq⟩ : ∃ q, m / 8 = q := ⟨_, rfl⟩
      obtain ⟨r, hr8⟩ : ∃ r, m % 8 = r := ⟨_, rfl⟩
      have hqn : q < n + 9 := by omega
      have hrl : r < 8 := by omega
      have hql : q < cs.length := by rw [HCL.out]; exact hqn
      have hq' : (m : Int) / 8 = (q : Int) := by omega
      have hr' : (m : Int) % 8 = (r : Int) := by omega
      clear hq hr8
      by_cases hq3 : q = 3
      · subst hq3
        go_wp2_with fail
        refine (round_any _ _ _ (by omega) (by omega)).mono ?_
        rintro e' w' ⟨rfl, rfl⟩
        rw [HM.out]
        go_wp2_with fail
        go_roundw
        case rel => exact ⟨j + 1, ps, hlt, by go_num, ⟨by have := HPS.out.1; omega, HPS.out.2⟩, by rw [HCS.out]; exact hown, hbox, hM⟩
        case measure => simp [intOf]; omega
      by_cases hq4 : q = 4
      · subst hq4
        go_wp2_with fail
        refine (round_any _ _ _ (by omega) (by omega)).mono ?_
        rintro e' w' ⟨rfl, rfl⟩
        rw [HM.out]
        go_wp2_with fail
        go_roundw
        case rel => exact ⟨j + 1, ps, hlt, by go_num, ⟨by have := HPS.out.1; omega, HPS.out.2⟩, by rw [HCS.out]; exact hown, hbox, hM⟩
        case measure => simp [intOf]; omega
      have g3 : ((q : Int) == 3) = false := by rw [beq_eq_false_iff_ne]; omega
      have g4 : ((q : Int) == 4) = false := by rw [beq_eq_false_iff_ne]; omega
      have hst := hown.stored q (.int .u8 (bxor cs[q] (2 ^ r)))
      have hfl : Hid (cs.set q (bxor cs[q] (2 ^ r)) = (ps ++ [(q, r)]).foldl flipL b) := Lib.hid (by
        rw [List.foldl_append, HCS.out]
        show _ = cs.set q (bxor (cs.getD q 0) (2 ^ r))
        rw [show cs.getD q 0 = cs[q] by simp [List.getD, hql]])
      have c1 : wr.cell? ⟨g, q, none⟩ = some (.int .u8 cs[q]) := by rw [hown.cellAt q (by omega)]; simp [hql]
      have c2 := hown.frozenAt q
      obtain ⟨e, he⟩ : ∃ e, cs[q] = e := ⟨_, rfl⟩
      rw [he] at hst c1 hfl
      clear he
      have hx : Hid (bits .xor .u8 e (2 ^ r % 256) = bxor e (2 ^ r)) := by
        refine Lib.hid ?_
        rw [bxor_bits]
        congr 1
        have : r = 0 ∨ r = 1 ∨ r = 2 ∨ r = 3 ∨ r = 4 ∨ r = 5 ∨ r = 6 ∨ r = 7 := by omega
        rcases this with rfl | rfl | rfl | rfl | rfl | rfl | rfl | rfl <;> decide
      rw [← List.map_set] at hst
      have hst1 := Lib.hid hst.1
      have hst2 := Lib.hid (hM.trans ((Mod.ofGrown hst.2).mono (fun k _ h => (Option.some.inj h).symm)) (H := fun k => k = g) (fun _ _ e => e) (fun _ _ e => e))
      have hbx2 := Lib.hid (hbox.setOther ⟨g, q, none⟩ (.int .u8 (bxor e (2 ^ r))) (by show w.heap.size ≠ g; omega))
      have HQ3 := Lib.hid hq3
      have HQ4 := Lib.hid hq4
      clear hst hown hM hq3 hq4
      go_wp2_with fail
      refine (round_any _ _ _ (by omega) (by omega)).mono ?_
      rintro e' w' ⟨rfl, rfl⟩
      rw [HM.out]
      go_wp2_with fail
      go_region
      go_wp2
      go_roundw
      case rel =>
        rw [hx.out]
        refine ⟨j + 1, ps ++ [(q, r)], hlt, by go_num, ⟨by rw [List.length_append]; have := HPS.out.1; simp; omega, fun p hp => ?_⟩, ?_, hbx2.out.drew, hst2.out.thenDrew⟩
        · rcases List.mem_append.1 hp with e | e
          · exact HPS.out.2 p e
          · rcases List.mem_singleton.1 e with rfl
            exact ⟨⟨hqn, hrl⟩, HQ3.out, HQ4.out⟩
        · rw [← hfl.out]; exact World.ownsRow.drew hst1.out
      case measure => simp [intOf]; omega
    · obtain rfl : j = 3 := by omega
      have htu := turned ⟨k1, k2⟩ HB.out (by rw [HN.out]; exact q1) HBD.out ps HPS.out.1 (by rw [HN.out]; exact HPS.out.2)
      rw [HCS.out] at htu
      have hMW := hM4.trans hM (H := fun _ => False) (fun _ _ e => e) (fun i hi e => by show False; omega)
      have hrb := hr4.out.keep hM HNE.out
      have hcl2 : cs.length = n + 9 := HCL.out
      by_cases hcb' : cs = b
      · subst hcb'
        go_wp2_with fail
        refine (unwrap_at HU1.out HN.out wr (some ⟨g, 0, none⟩) (n + 9) c4 hcl2 (Rd.ofOwn hown) hcb (by omega)).mono ?_
        rintro e w6 ⟨a6, c6, rfl, hF6, hM6⟩
        have hM16 := hMW.trans hM6 (H := fun _ => False) (fun _ _ e => e) (fun _ _ e => e)
        obtain ⟨X, hX⟩ : ∃ X, strOf cs = X := ⟨_, rfl⟩
        have k1' := run_strS (P := Try.prog) w6 22 9 5 Try.underlying22 Try.underlying5 Try.underlying9 ((Rd.ofOwn hown).keepA hM6 (fun _ _ e => e.elim))
        have k2' := run_strS (P := Try.prog) w6 22 9 5 Try.underlying22 Try.underlying5 Try.underlying9 (hrb.keepA hM6 (fun _ _ e => e.elim))
        rw [hX] at k1' k2'
        have HM := Lib.hid hM16
        clear hX hM16 hM6 hF6 hrb hown hbox hMW hM hM4 htu hr
        go_wp2_with (go_at_call 7; refine (awake_any _).mono ?_; rintro e w9 ⟨rfl, hM9⟩; have HM9 := Lib.hid hM9; clear hM9)
        go_ret
        exact ⟨rfl, HM.out.trans HM9.out (fun _ _ e => e) (fun _ _ e => e)⟩
      · have hbad := htu.resolve_left hcb'
        go_wp2_with fail
        refine (unwrap_at (m := 0) hbad rfl wr (some ⟨g, 0, none⟩) (n + 9) c4 hcl2 (Rd.ofOwn hown) hcb (by omega)).mono ?_
        rintro e w6 ⟨a6, c6, rfl, hF6, hM6⟩
        have hM16 := hMW.trans hM6 (H := fun _ => False) (fun _ _ e => e) (fun _ _ e => e)
        have hne : strOf cs ≠ strOf b := fun e => hcb' (strOf_inj hcb HBR.out e)
        obtain ⟨X, hX⟩ : ∃ X, strOf cs = X := ⟨_, rfl⟩
        obtain ⟨Y, hY⟩ : ∃ Y, strOf b = Y := ⟨_, rfl⟩
        rw [hX, hY] at hne
        have hxy : (X.toList == Y.toList) = false := by rw [← beq_toListBytes]; exact bytes_beq_ne hne
        have k1' := run_strS (P := Try.prog) w6 22 9 5 Try.underlying22 Try.underlying5 Try.underlying9 ((Rd.ofOwn hown).keepA hM6 (fun _ _ e => e.elim))
        have k2' := run_strS (P := Try.prog) w6 22 9 5 Try.underlying22 Try.underlying5 Try.underlying9 (hrb.keepA hM6 (fun _ _ e => e.elim))
        rw [hX] at k1'
        rw [hY] at k2'
        have HM := Lib.hid hM16
        have HCB := Lib.hid hcb'
        clear hX hY hM16 hM6 hF6 hrb hown hbox hMW hM hM4 htu hr hbad hcb'
        go_wp2_with (go_at_call 7; refine (awake_any _).mono ?_; rintro e w9 ⟨rfl, hM9⟩; have HM9 := Lib.hid hM9; clear hM9)
        go_ret
        exact ⟨rfl, HM.out.trans HM9.out (fun _ _ e => e) (fun _ _ e => e)⟩
theorem fturn_all (w : World) (kind : Int) (_ : (Lit.int .i64 kind).wf = true) (a : Option Addr) (n c : Nat) (body : List Int) (ok : (encSlice (encInt .u8)).ok w (.slice a n c, body)) (cs : Array Value) (x : Int × Int × Int) (hcs : cs.toList = (encPair (encInt .i64) (encPair (encInt .i64) (encInt .i64))).img x) (_ : (encPair (encInt .i64) (encPair (encInt .i64) (encInt .i64))).ok w x) :
    Calls Try.prog 5 #[.int .i64 kind, .slice a n c, .agg cs] w fun e w' => e = .returned (.bool true) ∧ Below w.heap.size w w' := by
  obtain ⟨hn, hr, hb⟩ := ok_ints ok
  obtain ⟨x, y, z⟩ := x
  have e : cs = #[.int .i64 x, .int .i64 y, .int .i64 z] := Array.toList_inj.1 hcs
  subst e
  exact (fturn_walk w kind a n c body hn hr (u8_range hb) x y z).mono fun e w' h => ⟨h.1, h.2.below (Nat.le_refl _) (fun _ e => e.elim)⟩
end Go.Proofs.Ytgcegdeeoijbgaa
