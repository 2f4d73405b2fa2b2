/- slices.Delete at rows of bytes, the head cut off, by contract. -/
import Derived.Test.YtdahoecejnnjkaaSd3
import Derived.Lib.SliceRun
namespace Go.Proofs.Ytdahoecejnnjkaa
open Go.RowKit Mile Go.Maps
set_option maxRecDepth 100000
theorem run_cut3 {P : Program} (w : World) (t e : TypeId) (i : TypeInfo) (size : Nat) (ht : P.underlying t = some (.slice e)) (hi : P.info? e = some i) (hs : i.size = size) (a : Option Addr) (len cap h : Nat) (h1 : h ≤ len) (h2 : len ≤ cap) :
    ∃ v, (Instr.slice t (.slice a len cap) (some (.int .i64 0)) (some (.int .i64 (h : Int))) (some (.int .i64 (len : Int)))).run P w = .ok v w := by
  have e1 : (h : Int) ≤ (len : Int) := by omega
  have e2 : (len : Int) ≤ (cap : Int) := by omega
  simp [Instr.slice, run_underlying ht, Instr.sliceBounds, run_sliceBound, e1, e2, Go.sizeOf, typeInfo, hi]
theorem run_cut2 {P : Program} (w : World) (t e : TypeId) (i : TypeInfo) (size : Nat) (ht : P.underlying t = some (.slice e)) (hi : P.info? e = some i) (hs : i.size = size) (a : Option Addr) (len cap l h : Nat) (h1 : l ≤ h) (h2 : h ≤ cap) :
    (Instr.slice t (.slice a len cap) (some (.int .i64 (l : Int))) (some (.int .i64 (h : Int))) none).run P w = .ok (.slice (dropA a cap l size) (h - l) (cap - l)) w := by
  have e1 : (l : Int) ≤ (h : Int) := by omega
  have e2 : (h : Int) ≤ (cap : Int) := by omega
  simp [Instr.slice, run_underlying ht, Instr.sliceBounds, run_sliceBound, e1, e2, Go.sizeOf, typeInfo, hi, hs, dropA]
/-- An append that has room lies where it lay. -/
theorem run_append_fits {P : Program} (w : World) (t ty e : TypeId) (i : TypeInfo) (z : Value) (size bytes : Nat) (ht : P.underlying t = some (.slice e)) (hi : P.info? e = some i) (hz : i.zero = some z)
    (hsize : i.size = size) (hby : i.bytes = bytes) (hzs : z.cells.size = size) (hsz : 0 < size)
    (g n c : Nat) (xs : List Value) (hown : w.ownsRow 0 e size (.slice (some ⟨g, 0, none⟩) n c) n xs)
    (x : Value) (m : Nat) (news : List Value) (hx : Rd w size x m news) (h1 : ∀ u ∈ news, u.oneCell' = true) (hroom : n + m ≤ c) (hbytes : (n + m) * bytes ≤ 140737488355328) :
    ∃ w', (Builtin.append_ #[t, t] ty #[.slice (some ⟨g, 0, none⟩) n c, x]).run P w = .ok (.slice (some ⟨g, 0, none⟩) (n + m) c) w' ∧ Appended w w' e size (.slice (some ⟨g, 0, none⟩) n c) (.slice (some ⟨g, 0, none⟩) (n + m) c) (n + m) (xs ++ news) := by
  obtain ⟨g', cap, cur, he, _, hg, hn1, hn2, hcs, htk⟩ := hown.2.resolve_left (fun h => by cases h.1)
  cases he
  obtain ⟨v', w', hr, hap⟩ := run_append_any (P := P) w t ty e i z size bytes ht hi hz hsize hby hzs hsz _ n xs hown x m news hx h1 (by omega) hbytes
  have hv : v' = .slice (some ⟨g, 0, none⟩) (n + m) c := by
    obtain ⟨hl, a, c2, rfl, hmc, hcm, hnone, hcell⟩ := hx
    cases a with
    | none =>
      obtain ⟨rfl, rfl⟩ := hnone rfl
      have : (Builtin.append_ #[t, t] ty #[.slice (some ⟨g, 0, none⟩) n c, .slice none 0 0]).run P w = .ok (.slice (some ⟨g, 0, none⟩) (n + 0) c) w := by
        simp [Builtin.append_, run_underlying ht, Go.sizeOf, typeInfo, hi, Builtin.lenOf, hn1, Builtin.firstCells, storeCells]
      rw [this] at hr; cases hr; rfl
    | some ad =>
      subst hsize
      obtain ⟨_, hc⟩ := hcell ad rfl
      have hr2 := run_append_room (P := P) w t ty e i ht hi g n c cur hg ad m c2 news hl hc h1 hroom (by rw [hl, hcs, ← Nat.add_mul]; exact Nat.mul_le_mul_right _ hroom)
      rw [hr2] at hr; cases hr; rfl
  subst hv
  exact ⟨w', hr, hap⟩
/-- An append that was run, as a step of a region that draws its order. -/
theorem step_append_run {P : Program} {ops : Array Oper} {o : Oper} {a : Act} {w : World} {K : Act → World → Prop} {Q : Exit → Act → World → Prop} {E : Prop} (hgd : o.guard = none) (s x : Operand) (t : TypeId)
    (ho : o.op = .call { callee := .builtin .append, args := #[s, x], argTypes := #[t, t] }) (sv xv : Value) (hs : a.eval s = sv) (hx : a.eval x = xv) (v' : Value) (w' : World)
    (hrun : ∀ ty, (Builtin.append_ #[t, t] ty #[sv, xv]).run P w = .ok v' w') (h : K (a.put o.dst v') w') : if Region.wanted o (yielded ops a.tmps) = true then Oper.wp P o a w K Q else E := by
  have hw : Region.wanted o (yielded ops a.tmps) = true := by simp [Region.wanted, hgd]
  rw [if_pos hw]
  unfold Oper.wp
  simp [execOp, ho, resolve, invoke, builtin, hs, hx, hrun, Result.andThen]
  exact h
theorem own_narrow {w : World} {base : Nat} {e : TypeId} {g n c m : Nat} {ys : List Value} (h : w.ownsRow base e 1 (.slice (some ⟨g, 0, none⟩) n c) n ys) (hm : m ≤ n) : w.ownsRow base e 1 (.slice (some ⟨g, 0, none⟩) m c) m (ys.take m) := by
  obtain ⟨hl, h | ⟨g', cap, cur, he, hb, hg, hn1, hn2, hcs, htk⟩⟩ := h
  · cases h.1
  · cases he
    refine ⟨by rw [List.length_take]; omega, .inr ⟨g, c, cur, rfl, hb, hg, by omega, hn2, hcs, ?_⟩⟩
    rw [← htk, List.take_take]
    congr 1; omega
theorem own_widen {w : World} {base : Nat} {e : TypeId} {g n c m : Nat} {ys : List Value} (h : w.ownsRow base e 1 (.slice (some ⟨g, 0, none⟩) m c) m ys) (hm : m ≤ n) (hn : n ≤ c) : ∃ zs, w.ownsRow base e 1 (.slice (some ⟨g, 0, none⟩) n c) n zs ∧ zs.take m = ys := by
  obtain ⟨hl, h | ⟨g', cap, cur, he, hb, hg, hn1, hn2, hcs, htk⟩⟩ := h
  · cases h.1
  · cases he
    refine ⟨cur.toList.take n, ⟨by rw [List.length_take, Array.length_toList]; omega, .inr ⟨g, c, cur, rfl, hb, hg, hn, hn2, hcs, by rw [Nat.mul_one]⟩⟩, ?_⟩
    rw [← htk, List.take_take]
    congr 1; omega
theorem own_setCells {base : Nat} {e : TypeId} {g n c m : Nat} : ∀ (vs : List Value) (o : Nat) (w : World) (ys : List Value), w.ownsRow base e 1 (.slice (some ⟨g, 0, none⟩) n c) n ys → m ≤ o → ∃ zs, (w.setCells g o vs).ownsRow base e 1 (.slice (some ⟨g, 0, none⟩) n c) n zs ∧ zs.take m = ys.take m
  | [], _, _, ys, h, _ => ⟨ys, h, rfl⟩
  | v :: r, o, w, ys, h, hm => by
    obtain ⟨zs, hz, ht⟩ := own_setCells (m := m) r (o + 1) (w.setCell ⟨g, o, none⟩ v) (ys.set o v) (h.stored o v).1 (by omega)
    exact ⟨zs, hz, by rw [ht, List.take_set_of_le (by omega)]⟩
theorem Sd.setCells {b : Nat} : ∀ (vs : List Value) (o : Nat) (w : World), Mod (fun k => k = b) w (w.setCells b o vs)
  | [], _, w => Mod.refl _ w
  | v :: r, o, w => (Mod.setCell (F := fun k => k = b) w ⟨b, o, none⟩ v rfl).trans (Sd.setCells r (o + 1) _) (fun _ _ e => e) (fun _ _ e => e)
theorem own_cleared {w : World} {base : Nat} {e : TypeId} {g c m : Nat} {ys vs : List Value} (h : w.ownsRow base e 1 (.slice (some ⟨g, 0, none⟩) m c) m ys) : (w.setCells g m vs).ownsRow base e 1 (.slice (some ⟨g, 0, none⟩) m c) m ys := by
  obtain ⟨zs, hz, ht⟩ := own_setCells (m := m) vs m w ys h (Nat.le_refl _)
  have hl : ys.length = m := by have := h.1; omega
  have hl2 : zs.length = m := by have := hz.1; omega
  rw [List.take_of_length_le (by omega), List.take_of_length_le (by omega)] at ht
  rw [← ht]; exact hz
set_option maxHeartbeats 4000000 in
theorem sddel_any (w : World) (a : Option Addr) (n c k : Nat) (xs : List Value) (h1c : ∀ u ∈ xs, u.oneCell' = true) (ho : w.ownsRow 0 38 1 (.slice a n c) n xs) (h0 : 0 < k) (hk : k ≤ n) (hn : n ≤ 1000000) :
    Calls Try.prog 50 #[.slice a n c, .int .i64 0, .int .i64 (k : Int)] w fun e w' => e = .returned (.slice a (n - k) c) ∧ w'.ownsRow 0 38 1 (.slice a (n - k) c) (n - k) (xs.drop k) ∧ Mod (fun i => (Value.slice a n c).ownBlock = some i) w w' := by
  obtain ⟨iB, hiB, hzB, hsB, hbB⟩ := info_parts Sd.infoB
  obtain ⟨ob, c', hab, hlo, hlt⟩ := own_block ho (by omega)
  cases hab
  have hcap : n ≤ c := by obtain ⟨_, h | ⟨g, cap, cur, he, _, _, hc, _⟩⟩ := ho; exact absurd h.1 (by simp); cases he; exact hc
  have z0 : ((0 : Int) == (k : Int)) = false := by rw [beq_eq_false_iff_ne]; omega
  obtain ⟨m, hm⟩ : ∃ m, n - k = m := ⟨_, rfl⟩
  rw [hm]
  have hrd := ((Rd.ofOwn ho).drop hk).keep (Mod.drew (fun _ => False) w) (fun _ _ e => e)
  rw [Nat.mul_one, hm] at hrd
  have ho0 := Own.keep (own_narrow ho (Nat.zero_le n)) (Mod.drew (fun _ => False) w) (fun _ _ e => e)
  rw [List.take_zero] at ho0
  have hap := fun ty => run_append_fits (P := Try.prog) w.drew 48 ty 38 iB (.slice none 0 0) 1 24 Try.underlying48 hiB hzB hsB hbB rfl (by decide) ob 0 c [] ho0 _ m _ hrd (fun u hu => h1c u (List.mem_of_mem_drop hu)) (by omega) (by omega)
  simp only [Nat.zero_add, List.nil_append] at hap
  obtain ⟨v3, hv3⟩ := run_cut3 (P := Try.prog) w 48 38 iB 1 Try.underlying48 hiB hsB (some ⟨ob, 0, none⟩) n c k hk hcap
  have htk := fun wx => run_takeS (P := Try.prog) wx 48 38 iB Try.underlying48 hiB (some ⟨ob, 0, none⟩) n c 0 (Nat.zero_le _)
  have hdr := fun wx => run_dropS (P := Try.prog) wx 48 38 iB 1 Try.underlying48 hiB hsB (some ⟨ob, 0, none⟩) n c k hk
  rw [hm] at hdr
  have hc2 := fun wx => run_cut2 (P := Try.prog) wx 48 38 iB 1 Try.underlying48 hiB hsB (some ⟨ob, 0, none⟩) m c m n (by omega) hcap
  have hnm : n - m = k := by omega
  have hdA : dropA (some ⟨ob, 0, none⟩) c m 1 = some ⟨ob, m, none⟩ := by unfold dropA; rw [if_neg (by omega)]; show some (Addr.add _ _) = _; rw [Addr.add_lit, Nat.zero_add, Nat.mul_one]
  rw [hnm, hdA] at hc2
  obtain ⟨w2, hrun, hA⟩ := hap 48
  have hrun2 : ∀ ty, (Builtin.append_ #[48, 48] ty #[.slice (some ⟨ob, 0, none⟩) 0 c, .slice (dropA (some ⟨ob, 0, none⟩) c k 1) m (c - k)]).run Try.prog w.drew = .ok (.slice (some ⟨ob, 0, none⟩) m c) w2 := fun ty => by
    obtain ⟨w3, h3, _⟩ := hap ty
    have : (Builtin.append_ #[48, 48] ty #[.slice (some ⟨ob, 0, none⟩) 0 c, .slice (dropA (some ⟨ob, 0, none⟩) c k 1) m (c - k)]).run Try.prog w.drew = (Builtin.append_ #[48, 48] 48 #[.slice (some ⟨ob, 0, none⟩) 0 c, .slice (dropA (some ⟨ob, 0, none⟩) c k 1) m (c - k)]).run Try.prog w.drew := rfl
    rw [this, hrun]
  have HRUN := Lib.hid hrun2
  have hzv : ∀ w : World, (zeroValue 38).run Try.prog w = .ok (.slice none 0 0) w := fun w => by kernel_rfl
  obtain ⟨zs, hz, _⟩ := own_widen hA.own (n := n) (by omega) hcap
  have hcl := fun ty => Lib.run_clear_slice (P := Try.prog) w2 48 38 ty (.slice none 0 0) Try.underlying48 hzv rfl rfl ob m k (c - m) h0 (fun j hj => by obtain ⟨v, hv⟩ := (Room.ofOwn hz (m + j) (by omega)).cell; rw [hv]; rfl) (fun j hj => (Room.ofOwn hz (m + j) (by omega)).free)
  have HA := Lib.hid hA
  clear hrun hrun2 hA hz hap ho0 hrd ho hzv h1c hm hnm hdA
  go_enter Try.func50, Try.ntmps50
  go_wp2_with fail
  go_region_law (refine step_append_run rfl (.tmp 22) (.tmp 25) 48 rfl (.slice (some ⟨ob, 0, none⟩) 0 c) (.slice (dropA (some ⟨ob, 0, none⟩) c k 1) m (c - k)) (by simp [Act.eval, Act.put]) (by simp [Act.eval, Act.put]) _ _ HRUN.out ?_)
  all_goals
    go_wp2_with fail
    go_ret
    refine ⟨rfl, own_cleared HA.out.own, ?_⟩
    exact ((Mod.drew (fun _ => False) w).trans (HA.out.mod.trans (Sd.setCells _ _ _) (H := fun i => i = ob) (fun i _ e => (Option.some.inj e).symm) (fun _ _ e => e)) (H := fun i => i = ob) (fun _ _ e => e.elim) (fun _ _ e => e)).mono (fun i _ e => by rw [e]; rfl)
end Go.Proofs.Ytdahoecejnnjkaa
