/- Stores into an own row: copy, a row that is widened, slices.Insert's runs. -/
import Derived.Test.YtnklgeekjkchbaaBase2
import Derived.Test.YtnklgeekjkchbaaShp
import Derived.Lib.SliceRun
import Derived.Lib.AppendZerosOnto
import Derived.Lib.Overlaps
import Derived.Laws.Externs
import Derived.Laws.IdiomCopy
namespace Mile
open Go Go.RowKit
theorem own_widenS {w : World} {base size : Nat} {e : TypeId} {g n c m : Nat} {ys : List Value} (h : w.ownsRow base e size (.slice (some ⟨g, 0, none⟩) m c) m ys) (hm : m ≤ n) (hn : n ≤ c) : ∃ zs, w.ownsRow base e size (.slice (some ⟨g, 0, none⟩) n c) n zs ∧ zs.take (m * size) = ys := by
  obtain ⟨hl, h | ⟨g', cap, cur, he, hb, hg, hn1, hn2, hcs, htk⟩⟩ := h
  · cases h.1
  · cases he
    have h1 : n * size ≤ c * size := Nat.mul_le_mul_right _ hn
    have h2 : m * size ≤ n * size := Nat.mul_le_mul_right _ hm
    refine ⟨cur.toList.take (n * size), ⟨by rw [List.length_take, Array.length_toList]; omega, .inr ⟨g, c, cur, rfl, hb, hg, hn, hn2, hcs, rfl⟩⟩, ?_⟩
    rw [← htk, List.take_take]
    congr 1; omega
theorem own_narrowS {w : World} {base size : Nat} {e : TypeId} {g n c m : Nat} {ys : List Value} (h : w.ownsRow base e size (.slice (some ⟨g, 0, none⟩) n c) n ys) (hm : m ≤ n) : w.ownsRow base e size (.slice (some ⟨g, 0, none⟩) m c) m (ys.take (m * size)) := by
  obtain ⟨hl, h | ⟨g', cap, cur, he, hb, hg, hn1, hn2, hcs, htk⟩⟩ := h
  · cases h.1
  · cases he
    have h2 : m * size ≤ n * size := Nat.mul_le_mul_right _ hm
    refine ⟨by rw [List.length_take]; omega, .inr ⟨g, c, cur, rfl, hb, hg, by omega, hn2, hcs, ?_⟩⟩
    rw [← htk, List.take_take]
    congr 1; omega
theorem setCells_mod {b : Nat} : ∀ (vs : List Value) (o : Nat) (w : World), Mod (fun k => k = b) w (w.setCells b o vs)
  | [], _, w => Mod.refl _ w
  | v :: r, o, w => (Mod.setCell (F := fun k => k = b) w ⟨b, o, none⟩ v rfl).trans (setCells_mod r (o + 1) _) (fun _ _ e => e) (fun _ _ e => e)
theorem own_put {base size : Nat} {e : TypeId} {g N c : Nat} : ∀ (vs : List Value) (o : Nat) (w : World) (xs : List Value), w.ownsRow base e size (.slice (some ⟨g, 0, none⟩) N c) N xs → o + vs.length ≤ N * size → (w.setCells g o vs).ownsRow base e size (.slice (some ⟨g, 0, none⟩) N c) N (xs.take o ++ vs ++ xs.drop (o + vs.length))
  | [], o, w, xs, h, _ => by
    show w.ownsRow _ _ _ _ _ _
    rw [List.append_nil, List.length_nil, Nat.add_zero, List.take_append_drop]
    exact h
  | v :: r, o, w, xs, h, hl => by
    have h1 := own_put r (o + 1) (w.setCell ⟨g, o, none⟩ v) (xs.set o v) (h.stored o v).1 (by simp at hl; omega)
    have hx : o < xs.length := by have := h.1; simp at hl; omega
    have e1 : (xs.set o v).take (o + 1) ++ r ++ (xs.set o v).drop (o + 1 + r.length) = xs.take o ++ (v :: r) ++ xs.drop (o + (v :: r).length) := by
      rw [List.drop_set_of_lt (by omega), List.take_set, List.take_succ_eq_append_getElem hx, List.set_append_right _ _ (by rw [List.length_take]; omega)]
      rw [List.length_take, Nat.min_eq_left (by omega), Nat.sub_self]
      simp [Nat.add_assoc, Nat.add_comm 1]
    rw [e1] at h1
    exact h1
/-- copy into an own row: what goes over is of one cell each. -/
theorem run_copy_take {P : Program} (w : World) (dT sT ty elem : TypeId) (i : TypeInfo) (size : Nat) (hu : P.underlying dT = some (.slice elem)) (hi : P.info? elem = some i) (hs : i.size = size)
    (base g N c : Nat) (xs : List Value) (hown : w.ownsRow base elem size (.slice (some ⟨g, 0, none⟩) N c) N xs) (o oc dl dc : Nat) (hoc : oc = o * size) (a : Option Addr) (m sc : Nat) (news : List Value) (hx : Rd w size (.slice a m sc) m news) (k : Nat) (hk : Nat.min m dl = k) (hok : o + k ≤ N) (h1 : ∀ u ∈ news.take (k * size), u.oneCell' = true) :
    (Builtin.copy_ #[dT, sT] ty #[.slice (some ⟨g, oc, none⟩) dl dc, .slice a m sc]).run P w = .ok (goInt k) (w.setCells g oc (news.take (k * size))) ∧ (w.setCells g oc (news.take (k * size))).ownsRow base elem size (.slice (some ⟨g, 0, none⟩) N c) N (xs.take oc ++ news.take (k * size) ++ xs.drop (oc + k * size)) := by
  subst hoc
  have hkm : k ≤ m := by rw [← hk]; exact Nat.min_le_left _ _
  have hl : (news.take (k * size)).length = k * size := by
    rw [List.length_take, hx.1]
    have := Nat.mul_le_mul_right size hkm; omega
  have hle : o * size + k * size ≤ N * size := by rw [← Nat.add_mul]; exact Nat.mul_le_mul_right _ hok
  have hput := own_put (news.take (k * size)) (o * size) w xs hown (by rw [hl]; exact hle)
  rw [hl] at hput
  refine ⟨?_, hput⟩
  have hst := run_storeCells_cells (P := P) g (o * size) (news.take (k * size)) 0 w (fun j hj => by
      rw [hl] at hj
      obtain ⟨v, hv⟩ := (Room.ofOwn hown (o * size + j) (by omega)).cell
      rw [Nat.add_zero, hv]; rfl) (fun j hj => by
      rw [hl] at hj
      rw [Nat.add_zero]; exact (Room.ofOwn hown (o * size + j) (by omega)).free) h1
  obtain ⟨hxl, a', c', he, hmc, hcm, hnone, hcell⟩ := hx
  cases he
  cases a with
  | none =>
    obtain ⟨rfl, rfl⟩ := hnone rfl
    obtain rfl : k = 0 := by omega
    have : news = [] := List.eq_nil_of_length_eq_zero (by simpa using hxl)
    subst this
    simp [Builtin.copy_, run_underlying hu, Builtin.lenOf, Builtin.firstCells, Go.sizeOf, typeInfo, hi, storeCells, World.setCells, goInt]
  | some ad =>
    have hld := run_loadCells_list (P := P) w ad (news.take (k * size)) (fun j v hj => (hcell ad rfl).2 j v (by rw [List.getElem?_take] at hj; split at hj; exact hj; cases hj))
    rw [hl] at hld
    have hk2 : Nat.min m dl = k := hk
    simp [Builtin.copy_, run_underlying hu, Builtin.lenOf, Builtin.firstCells, Go.sizeOf, typeInfo, hi, hs, hk2]
    rw [hld]
    simp only [Result.andThen_ok, List.toList_toArray]
    rw [hst]
    rfl
/-- copy into an own row. -/
theorem run_copy_own {P : Program} (w : World) (dT sT ty elem : TypeId) (i : TypeInfo) (size : Nat) (hu : P.underlying dT = some (.slice elem)) (hi : P.info? elem = some i) (hs : i.size = size)
    (base g N c : Nat) (xs : List Value) (hown : w.ownsRow base elem size (.slice (some ⟨g, 0, none⟩) N c) N xs) (o oc dl dc : Nat) (hoc : oc = o * size) (a : Option Addr) (m sc : Nat) (news : List Value) (hx : Rd w size (.slice a m sc) m news) (h1 : ∀ u ∈ news, u.oneCell' = true) (k : Nat) (hk : Nat.min m dl = k) (hok : o + k ≤ N) :
    (Builtin.copy_ #[dT, sT] ty #[.slice (some ⟨g, oc, none⟩) dl dc, .slice a m sc]).run P w = .ok (goInt k) (w.setCells g oc (news.take (k * size))) ∧ (w.setCells g oc (news.take (k * size))).ownsRow base elem size (.slice (some ⟨g, 0, none⟩) N c) N (xs.take oc ++ news.take (k * size) ++ xs.drop (oc + k * size)) :=
  run_copy_take w dT sT ty elem i size hu hi hs base g N c xs hown o oc dl dc hoc a m sc news hx k hk hok (fun u hu => h1 u (List.mem_of_mem_take hu))
/-- A copy whose run is known, as an operation of the walk, and as a step of a region that draws its order. -/
theorem wpList_copy_own {P : Program} (w : World) {ops : Array Oper} {rest : List Oper} {o : Oper} {a : Act} {Q : Exit → Act → World → Prop} (hgd : o.guard = none) (d s : Operand) (t t' : TypeId)
    (ho : o.op = .call { callee := .builtin .copy, args := #[d, s], argTypes := #[t, t'] }) (v u : Value) (hd : a.eval d = v) (hs : a.eval s = u) {v' : Value} {w' : World}
    (hr : ∀ ty, (Builtin.copy_ #[t, t'] ty #[v, u]).run P w = .ok v' w') (h : wpList P ops Q rest (a.put o.dst v') w') : wpList P ops Q (o :: rest) a w :=
  wpList_plain hgd fun _ hK => by
    unfold Oper.wp
    simp [execOp, ho, resolve, invoke, builtin, hd, hs, hr, Result.andThen]
    exact hK _ _ h
theorem step_copy_own {P : Program} {ops : Array Oper} {o : Oper} {a : Act} {w : World} {K : Act → World → Prop} {Q : Exit → Act → World → Prop} {E : Prop} (hgd : o.guard = none) (d s : Operand) (t t' : TypeId)
    (ho : o.op = .call { callee := .builtin .copy, args := #[d, s], argTypes := #[t, t'] }) (v u : Value) (hd : a.eval d = v) (hs : a.eval s = u) (v' : Value) (w' : World)
    (hr : ∀ ty, (Builtin.copy_ #[t, t'] ty #[v, u]).run P w = .ok v' w') (h : K (a.put o.dst v') w') : if Region.wanted o (yielded ops a.tmps) = true then Oper.wp P o a w K Q else E := by
  have hw : Region.wanted o (yielded ops a.tmps) = true := by simp [Region.wanted, hgd]
  rw [if_pos hw]
  unfold Oper.wp
  simp [execOp, ho, resolve, invoke, builtin, hd, hs, hr, Result.andThen]
  exact h
/-- An append that has room lies where it lay. -/
theorem run_append_here {P : Program} (w : World) (t ty e : TypeId) (i : TypeInfo) (z : Value) (size bytes : Nat) (ht : P.underlying t = some (.slice e)) (hi : P.info? e = some i) (hz : i.zero = some z)
    (hsize : i.size = size) (hby : i.bytes = bytes) (hzs : z.cells.size = size) (hsz : 0 < size)
    (g n c : Nat) (xs : List Value) (hown : w.ownsRow 0 e size (.slice (some ⟨g, 0, none⟩) n c) n xs)
    (x : Value) (m : Nat) (news : List Value) (hx : Rd w size x m news) (h1 : ∀ u ∈ news, u.oneCell' = true) (hroom : n + m ≤ c) (hbytes : (n + m) * bytes ≤ 140737488355328) :
    ∃ w', (∀ ty, (Builtin.append_ #[t, t] ty #[.slice (some ⟨g, 0, none⟩) n c, x]).run P w = .ok (.slice (some ⟨g, 0, none⟩) (n + m) c) w') ∧ Appended w w' e size (.slice (some ⟨g, 0, none⟩) n c) (.slice (some ⟨g, 0, none⟩) (n + m) c) (n + m) (xs ++ news) := by
  obtain ⟨g', cap, cur, he, _, hg, hn1, hn2, hcs, htk⟩ := hown.2.resolve_left (fun h => by cases h.1)
  cases he
  obtain ⟨v', w', hr, hap⟩ := run_append_any (P := P) w t ty e i z size bytes ht hi hz hsize hby hzs hsz _ n xs hown x m news hx h1 (by omega) hbytes
  have hv : v' = .slice (some ⟨g, 0, none⟩) (n + m) c := by
    obtain ⟨hl, a, c2, rfl, hmc, hcm, hnone, hcell⟩ := hx
    cases a with
    | none =>
      obtain ⟨rfl, rfl⟩ := hnone rfl
      have : (Builtin.append_ #[t, t] ty #[.slice (some ⟨g, 0, none⟩) n c, .slice none 0 0]).run P w = .ok (.slice (some ⟨g, 0, none⟩) (n + 0) c) w := by
        simp [Builtin.append_, run_underlying ht, Go.sizeOf, typeInfo, hi, Builtin.lenOf, hn1, Builtin.firstCells, storeCells]
      rw [this] at hr; cases hr; rfl
    | some ad =>
      subst hsize
      obtain ⟨_, hc⟩ := hcell ad rfl
      have hr2 := run_append_room (P := P) w t ty e i ht hi g n c cur hg ad m c2 news hl hc h1 hroom (by rw [hl, hcs, ← Nat.add_mul]; exact Nat.mul_le_mul_right _ hroom)
      rw [hr2] at hr; cases hr; rfl
  subst hv
  exact ⟨w', fun ty2 => hr, hap⟩
theorem run_cut3S {P : Program} (w : World) (t e : TypeId) (i : TypeInfo) (ht : P.underlying t = some (.slice e)) (hi : P.info? e = some i) (a : Option Addr) (len cap l h : Nat) (h0 : l ≤ h) (h1 : h ≤ len) (h2 : len ≤ cap) :
    ∃ v, (Instr.slice t (.slice a len cap) (some (.int .i64 (l : Int))) (some (.int .i64 (h : Int))) (some (.int .i64 (len : Int)))).run P w = .ok v w := by
  have e0 : (l : Int) ≤ (h : Int) := by omega
  have e1 : (h : Int) ≤ (len : Int) := by omega
  have e2 : (len : Int) ≤ (cap : Int) := by omega
  simp [Instr.slice, run_underlying ht, Instr.sliceBounds, run_sliceBound, e0, e1, e2, Go.sizeOf, typeInfo, hi]
theorem run_cut2S {P : Program} (w : World) (t e : TypeId) (i : TypeInfo) (size : Nat) (ht : P.underlying t = some (.slice e)) (hi : P.info? e = some i) (hs : i.size = size) (a : Option Addr) (len cap l h : Nat) (h1 : l ≤ h) (h2 : h ≤ cap) :
    (Instr.slice t (.slice a len cap) (some (.int .i64 (l : Int))) (some (.int .i64 (h : Int))) none).run P w = .ok (.slice (dropA a cap l size) (h - l) (cap - l)) w := by
  have e1 : (l : Int) ≤ (h : Int) := by omega
  have e2 : (h : Int) ≤ (cap : Int) := by omega
  simp [Instr.slice, run_underlying ht, Instr.sliceBounds, run_sliceBound, e1, e2, Go.sizeOf, typeInfo, hi, hs, dropA]
theorem step_append_here {P : Program} {ops : Array Oper} {o : Oper} {a : Act} {w : World} {K : Act → World → Prop} {Q : Exit → Act → World → Prop} {E : Prop} (hgd : o.guard = none) (s x : Operand) (t : TypeId)
    (ho : o.op = .call { callee := .builtin .append, args := #[s, x], argTypes := #[t, t] }) (sv xv : Value) (hs : a.eval s = sv) (hx : a.eval x = xv) (v' : Value) (w' : World)
    (hrun : ∀ ty, (Builtin.append_ #[t, t] ty #[sv, xv]).run P w = .ok v' w') (h : K (a.put o.dst v') w') : if Region.wanted o (yielded ops a.tmps) = true then Oper.wp P o a w K Q else E := by
  have hw : Region.wanted o (yielded ops a.tmps) = true := by simp [Region.wanted, hgd]
  rw [if_pos hw]
  unfold Oper.wp
  simp [execOp, ho, resolve, invoke, builtin, hs, hx, hrun, Result.andThen]
  exact h
/-- clear of one element behind what is left. -/
theorem run_clear_one {P : Program} (w : World) (t e : TypeId) (z : Value) (zl : List Value) (size : Nat) (ht : P.underlying t = some (.slice e)) (hv : ∀ w, (zeroValue e).run P w = .ok z w) (hz : (Builtin.zeroCells z.cells 1).toList = zl) (hzl : zl.length = size) (h1 : ∀ u ∈ zl, u.oneCell' = true)
    (base g m c dc : Nat) (xs : List Value) (ho : w.ownsRow base e size (.slice (some ⟨g, 0, none⟩) m c) m xs) (hc : m + 1 ≤ c) :
    (∀ ty, (Builtin.clear_ #[t] ty #[.slice (some ⟨g, m * size, none⟩) 1 dc]).run P w = .ok (.tuple #[]) (w.setCells g (m * size) zl)) ∧ (w.setCells g (m * size) zl).ownsRow base e size (.slice (some ⟨g, 0, none⟩) m c) m xs := by
  obtain ⟨zs, hoz, hzt⟩ := own_widenS ho (n := m + 1) (by omega) hc
  have hle : m * size + zl.length ≤ (m + 1) * size := by rw [hzl, Nat.add_mul, Nat.one_mul]; exact Nat.le_refl _
  refine ⟨fun ty => ?_, ?_⟩
  · have hst := run_storeCells_cells (P := P) g (m * size) zl 0 w (fun j hj => by
      obtain ⟨v, hv⟩ := (Room.ofOwn hoz (m * size + j) (by omega)).cell
      rw [Nat.add_zero, hv]; rfl) (fun j hj => by
      rw [Nat.add_zero]; exact (Room.ofOwn hoz (m * size + j) (by omega)).free) h1
    simp only [Builtin.clear_, Sem.run_bind]
    simp [run_underlying ht, hv, hz, Result.andThen_ok]
    rw [hst]
    rfl
  · have h2 := own_put zl (m * size) w zs hoz hle
    have h3 := own_narrowS h2 (m := m) (by omega)
    have hl : (zs.take (m * size)).length = m * size := by rw [hzt]; exact ho.1
    rw [List.append_assoc, List.take_left' hl, hzt] at h3
    exact h3
theorem put_shift (xs x zs : List Value) (i n s : Nat) (hi : i < n) (hx : xs.length = n * s) (hxl : x.length = s) (hz : zs.length = (n + 1) * s) (hzt : zs.take (n * s) = xs) :
    ((zs.take ((i + 1) * s) ++ xs.drop (i * s) ++ zs.drop ((i + 1) * s + (n - i) * s)).take (i * s) ++ x ++ (zs.take ((i + 1) * s) ++ xs.drop (i * s) ++ zs.drop ((i + 1) * s + (n - i) * s)).drop (i * s + s)) = xs.take (i * s) ++ x ++ xs.drop (i * s) := by
  have h1 : i * s + s = (i + 1) * s := by rw [Nat.add_mul, Nat.one_mul]
  have h2 : (i + 1) * s ≤ n * s := Nat.mul_le_mul_right _ hi
  have h3 : (i + 1) * s + (n - i) * s = (n + 1) * s := by rw [← Nat.add_mul]; congr 1; omega
  have h4 : n * s + s = (n + 1) * s := by rw [Nat.add_mul, Nat.one_mul]
  have hl : (zs.take ((i + 1) * s)).length = (i + 1) * s := by rw [List.length_take]; omega
  have e1 : zs.drop ((i + 1) * s + (n - i) * s) = [] := by rw [h3]; exact List.drop_of_length_le (by omega)
  rw [e1, List.append_nil, h1, List.drop_left' hl, List.take_append_of_le_length (by rw [hl]; omega), List.take_take]
  have e2 : zs.take (min (i * s) ((i + 1) * s)) = xs.take (i * s) := by
    rw [← hzt, List.take_take, Nat.min_eq_left (by omega), Nat.min_eq_left (by omega)]
  rw [e2]
theorem put_grow (xs x zs : List Value) (i n s : Nat) (hi : i < n) (hx : xs.length = n * s) (hxl : x.length = s) (hz : zs.length = (n + 1) * s) (hzt : zs.take (i * s) = xs.take (i * s)) :
    ((zs.take (i * s) ++ x ++ zs.drop (i * s + s)).take ((i + 1) * s) ++ xs.drop (i * s) ++ (zs.take (i * s) ++ x ++ zs.drop (i * s + s)).drop ((i + 1) * s + (n - i) * s)) = xs.take (i * s) ++ x ++ xs.drop (i * s) := by
  have h1 : i * s + s = (i + 1) * s := by rw [Nat.add_mul, Nat.one_mul]
  have h2 : (i + 1) * s ≤ n * s := Nat.mul_le_mul_right _ hi
  have h3 : (i + 1) * s + (n - i) * s = (n + 1) * s := by rw [← Nat.add_mul]; congr 1; omega
  have hl : (zs.take (i * s) ++ x).length = (i + 1) * s := by rw [List.length_append, List.length_take, hxl]; omega
  have e1 : (zs.take (i * s) ++ x ++ zs.drop (i * s + s)).drop ((i + 1) * s + (n - i) * s) = [] := by
    rw [h3]; refine List.drop_of_length_le ?_
    rw [List.length_append, hl, List.length_drop]; omega
  rw [e1, List.append_nil, List.take_left' hl, hzt]
end Mile
