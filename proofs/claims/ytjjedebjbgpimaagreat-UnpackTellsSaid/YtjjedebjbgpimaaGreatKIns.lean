/- Stores into an own row: copy, a row that is widened, slices.Insert's runs. -/
import Derived.Test.YtjjedebjbgpimaaGreatKBase
import Derived.Lib.SliceRun
import Derived.Lib.AppendZerosOnto
import Derived.Lib.Overlaps
import Derived.Laws.Externs
import Derived.Laws.IdiomCopy
import Derived.Test.YtjjedebjbgpimaaGreatRows
import Derived.Deep.DeepCutAuto
import Derived.Lib.Hide
namespace Mile
open Go Go.RowKit
theorem own_widenS {w : World} {base size : Nat} {e : TypeId} {g n c m : Nat} {ys : List Value} (h : w.ownsRow base e size (.slice (some ⟨g, 0, none⟩) m c) m ys) (hm : m ≤ n) (hn : n ≤ c) : ∃ zs, w.ownsRow base e size (.slice (some ⟨g, 0, none⟩) n c) n zs ∧ zs.take (m * size) = ys := by
  obtain ⟨hl, h | ⟨g', cap, cur, he, hb, hg, hn1, hn2, hcs, htk⟩⟩ := h
  · cases h.1
  · cases he
    have h1 : n * size ≤ c * size := Nat.mul_le_mul_right _ hn
    have h2 : m * size ≤ n * size := Nat.mul_le_mul_right _ hm
    refine ⟨cur.toList.take (n * size), ⟨by rw [List.length_take, Array.length_toList]; omega, .inr ⟨g, c, cur, rfl, hb, hg, hn, hn2, hcs, rfl⟩⟩, ?_⟩
    rw [← htk, List.take_take]
    congr 1; omega
theorem own_narrowS {w : World} {base size : Nat} {e : TypeId} {g n c m : Nat} {ys : List Value} (h : w.ownsRow base e size (.slice (some ⟨g, 0, none⟩) n c) n ys) (hm : m ≤ n) : w.ownsRow base e size (.slice (some ⟨g, 0, none⟩) m c) m (ys.take (m * size)) := by
  obtain ⟨hl, h | ⟨g', cap, cur, he, hb, hg, hn1, hn2, hcs, htk⟩⟩ := h
  · cases h.1
  · cases he
    have h2 : m * size ≤ n * size := Nat.mul_le_mul_right _ hm
    refine ⟨by rw [List.length_take]; omega, .inr ⟨g, c, cur, rfl, hb, hg, by omega, hn2, hcs, ?_⟩⟩
    rw [← htk, List.take_take]
    congr 1; omega
theorem setCells_mod {b : Nat} : ∀ (vs : List Value) (o : Nat) (w : World), Mod (fun k => k = b) w (w.setCells b o vs)
  | [], _, w => Mod.refl _ w
  | v :: r, o, w => (Mod.setCell (F := fun k => k = b) w ⟨b, o, none⟩ v rfl).trans (setCells_mod r (o + 1) _) (fun _ _ e => e) (fun _ _ e => e)
theorem own_put {base size : Nat} {e : TypeId} {g N c : Nat} : ∀ (vs : List Value) (o : Nat) (w : World) (xs : List Value), w.ownsRow base e size (.slice (some ⟨g, 0, none⟩) N c) N xs → o + vs.length ≤ N * size → (w.setCells g o vs).ownsRow base e size (.slice (some ⟨g, 0, none⟩) N c) N (xs.take o ++ vs ++ xs.drop (o + vs.length))
  | [], o, w, xs, h, _ => by
    show w.ownsRow _ _ _ _ _ _
    rw [List.append_nil, List.length_nil, Nat.add_zero, List.take_append_drop]
    exact h
  | v :: r, o, w, xs, h, hl => by
    have h1 := own_put r (o + 1) (w.setCell ⟨g, o, none⟩ v) (xs.set o v) (h.stored o v).1 (by simp at hl; omega)
    have hx : o < xs.length := by have := h.1; simp at hl; omega
    have e1 : (xs.set o v).take (o + 1) ++ r ++ (xs.set o v).drop (o + 1 + r.length) = xs.take o ++ (v :: r) ++ xs.drop (o + (v :: r).length) := by
      rw [List.drop_set_of_lt (by omega), List.take_set, List.take_succ_eq_append_getElem hx, List.set_append_right _ _ (by rw [List.length_take]; omega)]
      rw [List.length_take, Nat.min_eq_left (by omega), Nat.sub_self]
      simp [Nat.add_assoc, Nat.add_comm 1]
    rw [e1] at h1
    exact h1
theorem run_copy_take {P : Program} (w : World) (dT sT ty elem : TypeId) (i : TypeInfo) (size : Nat) (hu : P.underlying dT = some (.slice elem)) (hi : P.info? elem = some i) (hs : i.size = size)
    (base g N c : Nat) (xs : List Value) (hown : w.ownsRow base elem size (.slice (some ⟨g, 0, none⟩) N c) N xs) (o oc dl dc : Nat) (hoc : oc = o * size) (a : Option Addr) (m sc : Nat) (news : List Value) (hx : Rd w size (.slice a m sc) m news) (k : Nat) (hk : Nat.min m dl = k) (hok : o + k ≤ N) (h1 : ∀ u ∈ news.take (k * size), u.oneCell' = true) :
    (Builtin.copy_ #[dT, sT] ty #[.slice (some ⟨g, oc, none⟩) dl dc, .slice a m sc]).run P w = .ok (goInt k) (w.setCells g oc (news.take (k * size))) ∧ (w.setCells g oc (news.take (k * size))).ownsRow base elem size (.slice (some ⟨g, 0, none⟩) N c) N (xs.take oc ++ news.take (k * size) ++ xs.drop (oc + k * size)) := by
  subst hoc
  have hkm : k ≤ m := by rw [← hk]; exact Nat.min_le_left _ _
  have hl : (news.take (k * size)).length = k * size := by
    rw [List.length_take, hx.1]
    have := Nat.mul_le_mul_right size hkm; omega
  have hle : o * size + k * size ≤ N * size := by rw [← Nat.add_mul]; exact Nat.mul_le_mul_right _ hok
  have hput := own_put (news.take (k * size)) (o * size) w xs hown (by rw [hl]; exact hle)
  rw [hl] at hput
  refine ⟨?_, hput⟩
  have hst := run_storeCells_cells (P := P) g (o * size) (news.take (k * size)) 0 w (fun j hj => by
      rw [hl] at hj
      obtain ⟨v, hv⟩ := (Room.ofOwn hown (o * size + j) (by omega)).cell
      rw [Nat.add_zero, hv]; rfl) (fun j hj => by
      rw [hl] at hj
      rw [Nat.add_zero]; exact (Room.ofOwn hown (o * size + j) (by omega)).free) h1
  obtain ⟨hxl, a', c', he, hmc, hcm, hnone, hcell⟩ := hx
  cases he
  cases a with
  | none =>
    obtain ⟨rfl, rfl⟩ := hnone rfl
    obtain rfl : k = 0 := by omega
    have : news = [] := List.eq_nil_of_length_eq_zero (by simpa using hxl)
    subst this
    simp [Builtin.copy_, run_underlying hu, Builtin.lenOf, Builtin.firstCells, Go.sizeOf, typeInfo, hi, storeCells, World.setCells, goInt]
  | some ad =>
    have hld := run_loadCells_list (P := P) w ad (news.take (k * size)) (fun j v hj => (hcell ad rfl).2 j v (by rw [List.getElem?_take] at hj; split at hj; exact hj; cases hj))
    rw [hl] at hld
    have hk2 : Nat.min m dl = k := hk
    simp [Builtin.copy_, run_underlying hu, Builtin.lenOf, Builtin.firstCells, Go.sizeOf, typeInfo, hi, hs, hk2]
    rw [hld]
    simp only [Result.andThen_ok]
    rw [hst]
    rfl
theorem run_copy_own {P : Program} (w : World) (dT sT ty elem : TypeId) (i : TypeInfo) (size : Nat) (hu : P.underlying dT = some (.slice elem)) (hi : P.info? elem = some i) (hs : i.size = size)
    (base g N c : Nat) (xs : List Value) (hown : w.ownsRow base elem size (.slice (some ⟨g, 0, none⟩) N c) N xs) (o oc dl dc : Nat) (hoc : oc = o * size) (a : Option Addr) (m sc : Nat) (news : List Value) (hx : Rd w size (.slice a m sc) m news) (h1 : ∀ u ∈ news, u.oneCell' = true) (k : Nat) (hk : Nat.min m dl = k) (hok : o + k ≤ N) :
    (Builtin.copy_ #[dT, sT] ty #[.slice (some ⟨g, oc, none⟩) dl dc, .slice a m sc]).run P w = .ok (goInt k) (w.setCells g oc (news.take (k * size))) ∧ (w.setCells g oc (news.take (k * size))).ownsRow base elem size (.slice (some ⟨g, 0, none⟩) N c) N (xs.take oc ++ news.take (k * size) ++ xs.drop (oc + k * size)) :=
  run_copy_take w dT sT ty elem i size hu hi hs base g N c xs hown o oc dl dc hoc a m sc news hx k hk hok (fun u hu => h1 u (List.mem_of_mem_take hu))
theorem step_copy_own {P : Program} {ops : Array Oper} {o : Oper} {a : Act} {w : World} {K : Act → World → Prop} {Q : Exit → Act → World → Prop} {E : Prop} (hgd : o.guard = none) (d s : Operand) (t t' : TypeId)
    (ho : o.op = .call { callee := .builtin .copy, args := #[d, s], argTypes := #[t, t'] }) (v u : Value) (hd : a.eval d = v) (hs : a.eval s = u) (v' : Value) (w' : World)
    (hr : ∀ ty, (Builtin.copy_ #[t, t'] ty #[v, u]).run P w = .ok v' w') (h : K (a.put o.dst v') w') : if Region.wanted o (yielded ops a.tmps) = true then Oper.wp P o a w K Q else E := by
  have hw : Region.wanted o (yielded ops a.tmps) = true := by simp [Region.wanted, hgd]
  rw [if_pos hw]
  unfold Oper.wp
  simp [execOp, ho, resolve, invoke, builtin, hd, hs, hr, Result.andThen]
  exact h
theorem run_append_here {P : Program} (w : World) (t ty e : TypeId) (i : TypeInfo) (z : Value) (size bytes : Nat) (ht : P.underlying t = some (.slice e)) (hi : P.info? e = some i) (hz : i.zero = some z)
    (hsize : i.size = size) (hby : i.bytes = bytes) (hzs : z.cells.size = size) (hsz : 0 < size)
    (g n c : Nat) (xs : List Value) (hown : w.ownsRow 0 e size (.slice (some ⟨g, 0, none⟩) n c) n xs)
    (x : Value) (m : Nat) (news : List Value) (hx : Rd w size x m news) (h1 : ∀ u ∈ news, u.oneCell' = true) (hroom : n + m ≤ c) (hbytes : (n + m) * bytes ≤ 140737488355328) :
    ∃ w', (∀ ty, (Builtin.append_ #[t, t] ty #[.slice (some ⟨g, 0, none⟩) n c, x]).run P w = .ok (.slice (some ⟨g, 0, none⟩) (n + m) c) w') ∧ Appended w w' e size (.slice (some ⟨g, 0, none⟩) n c) (.slice (some ⟨g, 0, none⟩) (n + m) c) (n + m) (xs ++ news) := by
  obtain ⟨g', cap, cur, he, _, hg, hn1, hn2, hcs, htk⟩ := hown.2.resolve_left (fun h => by cases h.1)
  cases he
  obtain ⟨v', w', hr, hap⟩ := run_append_any (P := P) w t ty e i z size bytes ht hi hz hsize hby hzs hsz _ n xs hown x m news hx h1 (by omega) hbytes
  have hv : v' = .slice (some ⟨g, 0, none⟩) (n + m) c := by
    obtain ⟨hl, a, c2, rfl, hmc, hcm, hnone, hcell⟩ := hx
    cases a with
    | none =>
      obtain ⟨rfl, rfl⟩ := hnone rfl
      have : (Builtin.append_ #[t, t] ty #[.slice (some ⟨g, 0, none⟩) n c, .slice none 0 0]).run P w = .ok (.slice (some ⟨g, 0, none⟩) (n + 0) c) w := by
        simp [Builtin.append_, run_underlying ht, Go.sizeOf, typeInfo, hi, Builtin.lenOf, hn1, Builtin.firstCells, storeCells]
      rw [this] at hr; cases hr; rfl
    | some ad =>
      subst hsize
      obtain ⟨_, hc⟩ := hcell ad rfl
      have hr2 := run_append_room (P := P) w t ty e i ht hi g n c cur hg ad m c2 news hl hc h1 hroom (by rw [hl, hcs, ← Nat.add_mul]; exact Nat.mul_le_mul_right _ hroom)
      rw [hr2] at hr; cases hr; rfl
  subst hv
  exact ⟨w', fun ty2 => hr, hap⟩
theorem run_cut3S {P : Program} (w : World) (t e : TypeId) (i : TypeInfo) (ht : P.underlying t = some (.slice e)) (hi : P.info? e = some i) (a : Option Addr) (len cap l h : Nat) (h0 : l ≤ h) (h1 : h ≤ len) (h2 : len ≤ cap) :
    ∃ v, (Instr.slice t (.slice a len cap) (some (.int .i64 (l : Int))) (some (.int .i64 (h : Int))) (some (.int .i64 (len : Int)))).run P w = .ok v w := by
  have e0 : (l : Int) ≤ (h : Int) := by omega
  have e1 : (h : Int) ≤ (len : Int) := by omega
  have e2 : (len : Int) ≤ (cap : Int) := by omega
  simp [Instr.slice, run_underlying ht, Instr.sliceBounds, run_sliceBound, e0, e1, e2, Go.sizeOf, typeInfo, hi]
theorem run_cut2S {P : Program} (w : World) (t e : TypeId) (i : TypeInfo) (size : Nat) (ht : P.underlying t = some (.slice e)) (hi : P.info? e = some i) (hs : i.size = size) (a : Option Addr) (len cap l h : Nat) (h1 : l ≤ h) (h2 : h ≤ cap) :
    (Instr.slice t (.slice a len cap) (some (.int .i64 (l : Int))) (some (.int .i64 (h : Int))) none).run P w = .ok (.slice (dropA a cap l size) (h - l) (cap - l)) w := by
  have e1 : (l : Int) ≤ (h : Int) := by omega
  have e2 : (h : Int) ≤ (cap : Int) := by omega
  simp [Instr.slice, run_underlying ht, Instr.sliceBounds, run_sliceBound, e1, e2, Go.sizeOf, typeInfo, hi, hs, dropA]
theorem step_append_here {P : Program} {ops : Array Oper} {o : Oper} {a : Act} {w : World} {K : Act → World → Prop} {Q : Exit → Act → World → Prop} {E : Prop} (hgd : o.guard = none) (s x : Operand) (t : TypeId)
    (ho : o.op = .call { callee := .builtin .append, args := #[s, x], argTypes := #[t, t] }) (sv xv : Value) (hs : a.eval s = sv) (hx : a.eval x = xv) (v' : Value) (w' : World)
    (hrun : ∀ ty, (Builtin.append_ #[t, t] ty #[sv, xv]).run P w = .ok v' w') (h : K (a.put o.dst v') w') : if Region.wanted o (yielded ops a.tmps) = true then Oper.wp P o a w K Q else E := by
  have hw : Region.wanted o (yielded ops a.tmps) = true := by simp [Region.wanted, hgd]
  rw [if_pos hw]
  unfold Oper.wp
  simp [execOp, ho, resolve, invoke, builtin, hs, hx, hrun, Result.andThen]
  exact h
theorem run_clear_one {P : Program} (w : World) (t e : TypeId) (z : Value) (zl : List Value) (size : Nat) (ht : P.underlying t = some (.slice e)) (hv : ∀ w, (zeroValue e).run P w = .ok z w) (hz : (Builtin.zeroCells z.cells 1).toList = zl) (hzl : zl.length = size) (h1 : ∀ u ∈ zl, u.oneCell' = true)
    (base g m c dc : Nat) (xs : List Value) (ho : w.ownsRow base e size (.slice (some ⟨g, 0, none⟩) m c) m xs) (hc : m + 1 ≤ c) :
    (∀ ty, (Builtin.clear_ #[t] ty #[.slice (some ⟨g, m * size, none⟩) 1 dc]).run P w = .ok (.tuple #[]) (w.setCells g (m * size) zl)) ∧ (w.setCells g (m * size) zl).ownsRow base e size (.slice (some ⟨g, 0, none⟩) m c) m xs := by
  obtain ⟨zs, hoz, hzt⟩ := own_widenS ho (n := m + 1) (by omega) hc
  have hle : m * size + zl.length ≤ (m + 1) * size := by rw [hzl, Nat.add_mul, Nat.one_mul]; exact Nat.le_refl _
  refine ⟨fun ty => ?_, ?_⟩
  · have hst := run_storeCells_cells (P := P) g (m * size) zl 0 w (fun j hj => by
      obtain ⟨v, hv⟩ := (Room.ofOwn hoz (m * size + j) (by omega)).cell
      rw [Nat.add_zero, hv]; rfl) (fun j hj => by
      rw [Nat.add_zero]; exact (Room.ofOwn hoz (m * size + j) (by omega)).free) h1
    simp only [Builtin.clear_]
    simp [run_underlying ht, hv, hz, Result.andThen_ok]
    rw [hst]
    rfl
  · have h2 := own_put zl (m * size) w zs hoz hle
    have h3 := own_narrowS h2 (m := m) (by omega)
    have hl : (zs.take (m * size)).length = m * size := by rw [hzt]; exact ho.1
    rw [List.append_assoc, List.take_left' hl, hzt] at h3
    exact h3
theorem put_shift (xs x zs : List Value) (i n s : Nat) (hi : i < n) (_ : xs.length = n * s) (hxl : x.length = s) (hz : zs.length = (n + 1) * s) (hzt : zs.take (n * s) = xs) :
    ((zs.take ((i + 1) * s) ++ xs.drop (i * s) ++ zs.drop ((i + 1) * s + (n - i) * s)).take (i * s) ++ x ++ (zs.take ((i + 1) * s) ++ xs.drop (i * s) ++ zs.drop ((i + 1) * s + (n - i) * s)).drop (i * s + s)) = xs.take (i * s) ++ x ++ xs.drop (i * s) := by
  have h1 : i * s + s = (i + 1) * s := by rw [Nat.add_mul, Nat.one_mul]
  have h2 : (i + 1) * s ≤ n * s := Nat.mul_le_mul_right _ hi
  have h3 : (i + 1) * s + (n - i) * s = (n + 1) * s := by rw [← Nat.add_mul]; congr 1; omega
  have h4 : n * s + s = (n + 1) * s := by rw [Nat.add_mul, Nat.one_mul]
  have hl : (zs.take ((i + 1) * s)).length = (i + 1) * s := by rw [List.length_take]; omega
  have e1 : zs.drop ((i + 1) * s + (n - i) * s) = [] := by rw [h3]; exact List.drop_of_length_le (by omega)
  rw [e1, List.append_nil, h1, List.drop_left' hl, List.take_append_of_le_length (by rw [hl]; omega), List.take_take]
  have e2 : zs.take (min (i * s) ((i + 1) * s)) = xs.take (i * s) := by
    rw [← hzt, List.take_take, Nat.min_eq_left (by omega), Nat.min_eq_left (by omega)]
  rw [e2]
theorem put_grow (xs x zs : List Value) (i n s : Nat) (hi : i < n) (_ : xs.length = n * s) (hxl : x.length = s) (hz : zs.length = (n + 1) * s) (hzt : zs.take (i * s) = xs.take (i * s)) :
    ((zs.take (i * s) ++ x ++ zs.drop (i * s + s)).take ((i + 1) * s) ++ xs.drop (i * s) ++ (zs.take (i * s) ++ x ++ zs.drop (i * s + s)).drop ((i + 1) * s + (n - i) * s)) = xs.take (i * s) ++ x ++ xs.drop (i * s) := by
  have h1 : i * s + s = (i + 1) * s := by rw [Nat.add_mul, Nat.one_mul]
  have h2 : (i + 1) * s ≤ n * s := Nat.mul_le_mul_right _ hi
  have h3 : (i + 1) * s + (n - i) * s = (n + 1) * s := by rw [← Nat.add_mul]; congr 1; omega
  have hl : (zs.take (i * s) ++ x).length = (i + 1) * s := by rw [List.length_append, List.length_take, hxl]; omega
  have e1 : (zs.take (i * s) ++ x ++ zs.drop (i * s + s)).drop ((i + 1) * s + (n - i) * s) = [] := by
    rw [h3]; refine List.drop_of_length_le ?_
    rw [List.length_append, hl, List.length_drop]; omega
  rw [e1, List.append_nil, List.take_left' hl, hzt]
end Mile
namespace Mile
structure Ar where
  f : Int
  t : Int
  w : Int
  m : Int
def keyLt (a b : Ar) : Prop := a.f < b.f ∨ (a.f = b.f ∧ a.t < b.t)
instance (a b : Ar) : Decidable (keyLt a b) := inferInstanceAs (Decidable (_ ∨ _))
theorem keyLt.trans {a b c : Ar} (h : keyLt a b) (k : keyLt b c) : keyLt a c := by unfold keyLt at *; omega
theorem keyLt.irr {a : Ar} : ¬ keyLt a a := by unfold keyLt; omega
def SortN (L : List Ar) : Prop := L.Pairwise keyLt
def ltN (L : List Ar) (a : Ar) : List Ar := L.filter fun b => decide (keyLt b a)
def gtN (L : List Ar) (a : Ar) : List Ar := L.filter fun b => decide (keyLt a b)
def eqN (L : List Ar) (a : Ar) : List Ar := L.filter fun b => decide (b.f = a.f ∧ b.t = a.t)
def newN (L : List Ar) (a : Ar) : List Ar := ltN L a ++ a :: gtN L a
def outL (L : List Ar) (v : Int) : List Ar := L.filter fun b => decide (b.f = v)
def inL (L : List Ar) (v : Int) : List Ar := L.filter fun b => decide (b.t = v)
def cutN (L : List Ar) (v : Int) : List Ar := L.filter fun b => decide (b.f ≠ v ∧ b.t ≠ v)
theorem split3 {L : List Ar} (h : SortN L) (a : Ar) : L = ltN L a ++ (eqN L a ++ gtN L a) := by
  induction L with
  | nil => rfl
  | cons b L ih =>
    obtain ⟨h1, h2⟩ := List.pairwise_cons.1 h
    have ih := ih h2
    unfold ltN eqN gtN at *
    by_cases c1 : keyLt b a
    · rw [List.filter_cons_of_pos (by simpa using c1), List.filter_cons_of_neg (by simp; unfold keyLt at c1; omega), List.filter_cons_of_neg (by simp; exact fun e => keyLt.irr (keyLt.trans c1 e))]
      rw [List.cons_append, ← ih]
    · have hg : ∀ x ∈ L, ¬ keyLt x a := fun x hx e => c1 ((h1 x hx).trans e)
      have e1 : L.filter (fun b => decide (keyLt b a)) = [] := List.filter_eq_nil_iff.2 fun x hx => by simpa using hg x hx
      rw [List.filter_cons_of_neg (by simpa using c1), e1]
      rw [e1] at ih
      by_cases c2 : b.f = a.f ∧ b.t = a.t
      · rw [List.filter_cons_of_pos (by simpa using c2), List.filter_cons_of_neg (by simp; unfold keyLt; omega)]
        show b :: L = b :: _
        rw [List.nil_append] at ih
        exact congrArg (b :: ·) ih
      · have c3 : keyLt a b := by unfold keyLt at *; omega
        have e2 : L.filter (fun b => decide (b.f = a.f ∧ b.t = a.t)) = [] := List.filter_eq_nil_iff.2 fun x hx => by
          have := h1 x hx
          simp; unfold keyLt at *; omega
        rw [List.filter_cons_of_neg (by simpa using c2), e2, List.filter_cons_of_pos (by simpa using c3)]
        rw [e2] at ih
        exact congrArg (b :: ·) ih
theorem SortN.sub {L : List Ar} (h : SortN L) (p : Ar → Bool) : SortN (L.filter p) := List.Pairwise.filter p h
theorem SortN.new {L : List Ar} (h : SortN L) (a : Ar) : SortN (newN L a) := by
  unfold newN SortN
  rw [List.pairwise_append]
  refine ⟨h.sub _, List.pairwise_cons.2 ⟨fun b hb => ?_, h.sub _⟩, fun b hb c hc => ?_⟩
  · have := (List.mem_filter.1 hb).2; simpa using this
  · have hb' : keyLt b a := by have := (List.mem_filter.1 hb).2; simpa using this
    rcases List.mem_cons.1 hc with rfl | hc
    · exact hb'
    · have : keyLt a c := by have := (List.mem_filter.1 hc).2; simpa using this
      exact hb'.trans this
theorem SortN.cut {L : List Ar} (h : SortN L) (v : Int) : SortN (cutN L v) := h.sub _
theorem mem_newN {L : List Ar} {a b : Ar} : b ∈ newN L a ↔ b = a ∨ (b ∈ L ∧ (keyLt b a ∨ keyLt a b)) := by
  unfold newN ltN gtN
  simp only [List.mem_append, List.mem_cons, List.mem_filter, decide_eq_true_eq]
  constructor
  · rintro (⟨h1, h2⟩ | rfl | ⟨h1, h2⟩)
    · exact .inr ⟨h1, .inl h2⟩
    · exact .inl rfl
    · exact .inr ⟨h1, .inr h2⟩
  · rintro (rfl | ⟨h1, h2 | h2⟩)
    · exact .inr (.inl rfl)
    · exact .inl ⟨h1, h2⟩
    · exact .inr (.inr ⟨h1, h2⟩)
theorem mem_outL {L : List Ar} {v : Int} {b : Ar} : b ∈ outL L v ↔ b ∈ L ∧ b.f = v := by unfold outL; simp
theorem mem_inL {L : List Ar} {v : Int} {b : Ar} : b ∈ inL L v ↔ b ∈ L ∧ b.t = v := by unfold inL; simp
theorem mem_cutN {L : List Ar} {v : Int} {b : Ar} : b ∈ cutN L v ↔ b ∈ L ∧ b.f ≠ v ∧ b.t ≠ v := by unfold cutN; simp
def ltR (R : List Ar) (x : Int) : List Ar := R.filter fun b => decide (b.t < x)
def gtR (R : List Ar) (x : Int) : List Ar := R.filter fun b => decide (x < b.t)
def eqR (R : List Ar) (x : Int) : List Ar := R.filter fun b => decide (b.t = x)
def RiseR (R : List Ar) : Prop := R.Pairwise fun a b => a.t < b.t
theorem splitR {R : List Ar} (h : RiseR R) (x : Int) : R = ltR R x ++ (eqR R x ++ gtR R x) := by
  induction R with
  | nil => rfl
  | cons b R ih =>
    obtain ⟨h1, h2⟩ := List.pairwise_cons.1 h
    have ih := ih h2
    unfold ltR eqR gtR at *
    by_cases c1 : b.t < x
    · rw [List.filter_cons_of_pos (by simpa using c1), List.filter_cons_of_neg (by simp; omega), List.filter_cons_of_neg (by simp; omega)]
      rw [List.cons_append, ← ih]
    · have e1 : R.filter (fun b => decide (b.t < x)) = [] := List.filter_eq_nil_iff.2 fun y hy => by have := h1 y hy; simp; omega
      rw [List.filter_cons_of_neg (by simpa using c1), e1]
      rw [e1] at ih
      by_cases c2 : b.t = x
      · rw [List.filter_cons_of_pos (by simpa using c2), List.filter_cons_of_neg (by simp; omega)]
        exact congrArg (b :: ·) ih
      · have e2 : R.filter (fun b => decide (b.t = x)) = [] := List.filter_eq_nil_iff.2 fun y hy => by have := h1 y hy; simp; omega
        rw [List.filter_cons_of_neg (by simpa using c2), e2, List.filter_cons_of_pos (by simp; omega)]
        rw [e2] at ih
        exact congrArg (b :: ·) ih
theorem outL_rise {L : List Ar} (h : SortN L) (v : Int) : RiseR (outL L v) := by
  unfold RiseR outL
  refine List.Pairwise.imp_of_mem (fun {a b} ha hb hab => ?_) (h.sub _)
  have h1 : a.f = v := by have := (List.mem_filter.1 ha).2; simpa using this
  have h2 : b.f = v := by have := (List.mem_filter.1 hb).2; simpa using this
  unfold keyLt at hab; omega
theorem eqR_len {R : List Ar} (h : RiseR R) (x : Int) : (eqR R x).length ≤ 1 := by
  have h2 : RiseR (eqR R x) := List.Pairwise.filter _ h
  have hm : ∀ b ∈ eqR R x, b.t = x := fun b hb => by unfold eqR at hb; have := (List.mem_filter.1 hb).2; simpa using this
  cases hr : eqR R x with
  | nil => simp
  | cons a R' =>
    cases R' with
    | nil => simp
    | cons b R'' =>
      rw [hr] at h2 hm
      have h3 := (List.pairwise_cons.1 h2).1 b List.mem_cons_self
      have h4 := hm a List.mem_cons_self
      have h5 := hm b (List.mem_cons_of_mem _ List.mem_cons_self)
      omega
def posR (R : List Ar) (x : Int) : Nat := (ltR R x).length
def isR (R : List Ar) (x : Int) : Bool := R.any fun b => decide (b.t = x)
theorem isR_eq {R : List Ar} {x : Int} : isR R x = decide (eqR R x ≠ []) := by
  unfold isR eqR
  induction R with
  | nil => rfl
  | cons b R ih =>
    rw [List.any_cons, ih]
    by_cases c : b.t = x
    · rw [List.filter_cons_of_pos (by simpa using c)]; simp [c]
    · rw [List.filter_cons_of_neg (by simpa using c)]; simp [c]
theorem isR_true {R : List Ar} (h : RiseR R) {x : Int} (hi : isR R x = true) : ∃ b, R = ltR R x ++ b :: gtR R x ∧ b.t = x ∧ eqR R x = [b] := by
  rw [isR_eq] at hi
  have h1 := eqR_len h x
  cases hr : eqR R x with
  | nil => rw [hr] at hi; simp at hi
  | cons b E =>
    rw [hr] at h1
    have : E = [] := List.eq_nil_of_length_eq_zero (by simpa using h1)
    subst this
    refine ⟨b, ?_, ?_, rfl⟩
    · have h2 := splitR h x; rw [hr] at h2; exact h2
    · have : b ∈ eqR R x := by rw [hr]; exact List.mem_cons_self
      unfold eqR at this; have := (List.mem_filter.1 this).2; simpa using this
theorem isR_false {R : List Ar} (h : RiseR R) {x : Int} (hi : isR R x = false) : R = ltR R x ++ gtR R x := by
  rw [isR_eq] at hi
  have h2 : eqR R x = [] := by simpa using hi
  have h3 := splitR h x; rw [h2] at h3; exact h3
theorem ltR_take {R : List Ar} (h : RiseR R) (x : Int) : R.take (posR R x) = ltR R x := by
  have h1 := splitR h x
  have h2 : R.take (posR R x) = (ltR R x ++ (eqR R x ++ gtR R x)).take (ltR R x).length := by unfold posR; rw [← h1]
  rw [h2, List.take_left']
  rfl
theorem gtR_drop {R : List Ar} (h : RiseR R) {x : Int} (hi : isR R x = false) : R.drop (posR R x) = gtR R x := by
  have h1 := isR_false h hi
  have h2 : R.drop (posR R x) = (ltR R x ++ gtR R x).drop (ltR R x).length := by unfold posR; rw [← h1]
  rw [h2, List.drop_left']
  rfl
def newR (R : List Ar) (a : Ar) : List Ar := ltR R a.t ++ a :: gtR R a.t
theorem newR_insert {R : List Ar} (h : RiseR R) {a : Ar} (hi : isR R a.t = false) : R.take (posR R a.t) ++ a :: R.drop (posR R a.t) = newR R a := by rw [ltR_take h, gtR_drop h hi]; rfl
theorem newR_set {R : List Ar} (h : RiseR R) {a : Ar} (hi : isR R a.t = true) : R.set (posR R a.t) a = newR R a := by
  obtain ⟨b, h1, h2, _⟩ := isR_true h hi
  have h3 : R.set (posR R a.t) a = (ltR R a.t ++ b :: gtR R a.t).set (ltR R a.t).length a := by unfold posR; rw [← h1]
  rw [h3, List.set_append_right _ _ (Nat.le_refl _), Nat.sub_self]; rfl
theorem posR_le (R : List Ar) (x : Int) : posR R x ≤ R.length := List.length_filter_le _ _
theorem posR_lt {R : List Ar} (h : RiseR R) {x : Int} (hi : isR R x = true) : posR R x < R.length ∧ ∃ b, R[posR R x]? = some b ∧ b.t = x ∧ b ∈ R := by
  obtain ⟨b, h1, h2, _⟩ := isR_true h hi
  have hl : R.length = posR R x + (gtR R x).length + 1 := by
    have := congrArg List.length h1; rw [List.length_append, List.length_cons] at this; unfold posR; omega
  have hg : R[posR R x]? = some b := by
    have h3 : R[posR R x]? = (ltR R x ++ b :: gtR R x)[(ltR R x).length]? := by unfold posR; rw [← h1]
    rw [h3, List.getElem?_append_right (Nat.le_refl _), Nat.sub_self]; rfl
  exact ⟨by omega, b, hg, h2, List.mem_of_getElem? hg⟩
theorem outL_new {L : List Ar} (h : SortN L) (a : Ar) (v : Int) : outL (newN L a) v = if v = a.f then newR (outL L v) a else outL L v := by
  by_cases hv : v = a.f
  · rw [if_pos hv]
    subst hv
    unfold outL newN newR ltN gtN ltR gtR
    rw [List.filter_append, List.filter_cons_of_pos (by simp), List.filter_filter, List.filter_filter, List.filter_filter, List.filter_filter]
    have e1 : ∀ b : Ar, (decide (b.f = a.f) && decide (keyLt b a)) = (decide (b.t < a.t) && decide (b.f = a.f)) := fun b => by
      by_cases c : b.f = a.f <;> simp [c, keyLt]
    have e2 : ∀ b : Ar, (decide (b.f = a.f) && decide (keyLt a b)) = (decide (a.t < b.t) && decide (b.f = a.f)) := fun b => by
      by_cases c : b.f = a.f <;> simp [c, keyLt]
    congr 1
    · exact congrArg (fun p => List.filter p L) (funext e1)
    · congr 1
      exact congrArg (fun p => List.filter p L) (funext e2)
  · rw [if_neg hv]
    have h1 := congrArg (fun l => outL l v) (split3 h a)
    have h2 : outL (eqN L a) v = [] := by
      unfold outL eqN
      rw [List.filter_filter, List.filter_eq_nil_iff]
      intro b hb; simp; omega
    have h3 : outL (ltN L a ++ (eqN L a ++ gtN L a)) v = outL (ltN L a) v ++ (outL (eqN L a) v ++ outL (gtN L a) v) := by unfold outL; rw [List.filter_append, List.filter_append]
    have h4 : outL (newN L a) v = outL (ltN L a) v ++ outL (gtN L a) v := by unfold outL newN; rw [List.filter_append, List.filter_cons_of_neg (by simp; omega)]
    rw [h4]
    show _ = outL L v
    rw [h1]
    show _ = outL (ltN L a ++ (eqN L a ++ gtN L a)) v
    rw [h3, h2, List.nil_append]

def inF (L : List Ar) (v : Int) : List Int := (inL L v).map (·.f)
def RiseI (R : List Int) : Prop := R.Pairwise (· < ·)
def ltI (R : List Int) (x : Int) : List Int := R.filter fun b => decide (b < x)
def gtI (R : List Int) (x : Int) : List Int := R.filter fun b => decide (x < b)
def newI (R : List Int) (x : Int) : List Int := ltI R x ++ x :: gtI R x
def posI (R : List Int) (x : Int) : Nat := (ltI R x).length
theorem inF_rise {L : List Ar} (h : SortN L) (v : Int) : RiseI (inF L v) := by
  unfold RiseI inF
  rw [List.pairwise_map]
  unfold inL
  refine List.Pairwise.imp_of_mem (fun {a b} ha hb hab => ?_) (h.sub _)
  have h1 : a.t = v := by have := (List.mem_filter.1 ha).2; simpa using this
  have h2 : b.t = v := by have := (List.mem_filter.1 hb).2; simpa using this
  unfold keyLt at hab; omega
theorem mem_inF {L : List Ar} {v x : Int} : x ∈ inF L v ↔ ∃ b ∈ L, b.f = x ∧ b.t = v := by
  unfold inF
  rw [List.mem_map]
  constructor
  · rintro ⟨b, hb, rfl⟩; exact ⟨b, (mem_inL.1 hb).1, rfl, (mem_inL.1 hb).2⟩
  · rintro ⟨b, hb, rfl, ht⟩; exact ⟨b, mem_inL.2 ⟨hb, ht⟩, rfl⟩
theorem isR_mem {L : List Ar} {v x : Int} : isR (outL L v) x = true ↔ ∃ b ∈ L, b.f = v ∧ b.t = x := by
  unfold isR
  rw [List.any_eq_true]
  constructor
  · rintro ⟨b, hb, hx⟩; exact ⟨b, (mem_outL.1 hb).1, (mem_outL.1 hb).2, by simpa using hx⟩
  · rintro ⟨b, hb, hf, ht⟩; exact ⟨b, mem_outL.2 ⟨hb, hf⟩, by simpa using ht⟩
theorem splitI {R : List Int} (h : RiseI R) (x : Int) : (x ∈ R → R = newI R x) ∧ (x ∉ R → R = ltI R x ++ gtI R x) := by
  induction R with
  | nil => exact ⟨(fun h => absurd h (by simp)), fun _ => rfl⟩
  | cons b R ih =>
    obtain ⟨h1, h2⟩ := List.pairwise_cons.1 h
    obtain ⟨i1, i2⟩ := ih h2
    unfold newI ltI gtI at *
    by_cases c1 : b < x
    · rw [List.filter_cons_of_pos (by simpa using c1), List.filter_cons_of_neg (by simp; omega)]
      refine ⟨fun hm => ?_, fun hm => ?_⟩
      · rcases List.mem_cons.1 hm with e | hm
        · omega
        · rw [List.cons_append, ← i1 hm]
      · rw [List.cons_append, ← i2 (fun e => hm (List.mem_cons_of_mem _ e))]
    · have e1 : R.filter (fun b => decide (b < x)) = [] := List.filter_eq_nil_iff.2 fun y hy => by have := h1 y hy; simp; omega
      rw [List.filter_cons_of_neg (by simpa using c1), e1]
      rw [e1] at i1 i2
      by_cases c2 : b = x
      · subst c2
        rw [List.filter_cons_of_neg (by simp)]
        have hn : b ∉ R := fun e => by have := h1 b e; omega
        refine ⟨fun _ => ?_, fun hm => absurd List.mem_cons_self hm⟩
        have i3 := i2 hn
        rw [List.nil_append] at i3 ⊢
        exact congrArg (b :: ·) i3
      · rw [List.filter_cons_of_pos (by simp; omega)]
        have hn : x ∉ R := fun e => by have := h1 x e; omega
        refine ⟨fun hm => ?_, fun hm => ?_⟩
        · rcases List.mem_cons.1 hm with e | e
          · exact absurd e.symm c2
          · exact absurd e hn
        · have i3 := i2 hn
          rw [List.nil_append] at i3 ⊢
          exact congrArg (b :: ·) i3
theorem ltI_take {R : List Int} (h : RiseI R) (x : Int) : R.take (posI R x) = ltI R x := by
  obtain ⟨h1, h2⟩ := splitI h x
  by_cases hm : x ∈ R
  · have h3 : R.take (posI R x) = (newI R x).take (ltI R x).length := by unfold posI; rw [← h1 hm]
    rw [h3]; unfold newI; rw [List.take_left' rfl]
  · have h3 : R.take (posI R x) = (ltI R x ++ gtI R x).take (ltI R x).length := by unfold posI; rw [← h2 hm]
    rw [h3, List.take_left' rfl]
theorem newI_insert {R : List Int} (h : RiseI R) {x : Int} (hm : x ∉ R) : R.take (posI R x) ++ x :: R.drop (posI R x) = newI R x := by
  have h2 := (splitI h x).2 hm
  have h3 : R.drop (posI R x) = (ltI R x ++ gtI R x).drop (ltI R x).length := by unfold posI; rw [← h2]
  rw [ltI_take h, h3, List.drop_left' rfl]; rfl
theorem posI_at {R : List Int} (h : RiseI R) {x : Int} (hm : x ∈ R) : posI R x < R.length ∧ R[posI R x]? = some x := by
  have h1 := (splitI h x).1 hm
  have h3 : R[posI R x]? = (newI R x)[(ltI R x).length]? := by unfold posI; rw [← h1]
  have h4 : R[posI R x]? = some x := by rw [h3]; unfold newI; rw [List.getElem?_append_right (Nat.le_refl _), Nat.sub_self]; rfl
  refine ⟨?_, h4⟩
  rcases Nat.lt_or_ge (posI R x) R.length with g | g
  · exact g
  · rw [List.getElem?_eq_none g] at h4; cases h4
def delI (R : List Int) (x : Int) : List Int := R.filter fun b => decide (b ≠ x)
theorem drop_mid {α : Type} (A : List α) (x : α) (B : List α) : (A ++ x :: B).drop (A.length + 1) = B := by
  rw [show A ++ x :: B = (A ++ [x]) ++ B by simp, List.drop_left' (by simp)]
theorem filter_ne_I {R : List Int} (h : RiseI R) (x : Int) : delI R x = ltI R x ++ gtI R x := by
  induction R with
  | nil => rfl
  | cons b R ih =>
    obtain ⟨h1, h2⟩ := List.pairwise_cons.1 h
    have ih := ih h2
    unfold delI ltI gtI at *
    by_cases c1 : b < x
    · rw [List.filter_cons_of_pos (by simp; omega), List.filter_cons_of_pos (by simpa using c1), List.filter_cons_of_neg (by simp; omega), ih]; rfl
    · have e1 : R.filter (fun b => decide (b < x)) = [] := List.filter_eq_nil_iff.2 fun y hy => by have := h1 y hy; simp; omega
      rw [e1] at ih
      by_cases c2 : b = x
      · subst c2
        rw [List.filter_cons_of_neg (by simp), List.filter_cons_of_neg (by simp), List.filter_cons_of_neg (by simp), e1, ih]
      · rw [List.filter_cons_of_pos (by simpa using c2), List.filter_cons_of_neg (by simpa using c1), List.filter_cons_of_pos (by simp; omega), e1, ih]; rfl
theorem delI_cut {R : List Int} (h : RiseI R) {x : Int} (hm : x ∈ R) : R.take (posI R x) ++ R.drop (posI R x + 1) = delI R x := by
  have h1 := (splitI h x).1 hm
  have h3 : R.drop (posI R x + 1) = (newI R x).drop ((ltI R x).length + 1) := by unfold posI; rw [← h1]
  have h4 : (newI R x).drop ((ltI R x).length + 1) = gtI R x := drop_mid _ _ _
  rw [ltI_take h, h3, h4, filter_ne_I h]
theorem delI_none {R : List Int} {x : Int} (hm : x ∉ R) : delI R x = R := List.filter_eq_self.2 fun b hb => by simp; exact fun e => hm (e ▸ hb)
def delR (R : List Ar) (x : Int) : List Ar := R.filter fun b => decide (b.t ≠ x)
theorem filter_ne_R {R : List Ar} (h : RiseR R) (x : Int) : delR R x = ltR R x ++ gtR R x := by
  induction R with
  | nil => rfl
  | cons b R ih =>
    obtain ⟨h1, h2⟩ := List.pairwise_cons.1 h
    have ih := ih h2
    unfold delR ltR gtR at *
    by_cases c1 : b.t < x
    · rw [List.filter_cons_of_pos (by simp; omega), List.filter_cons_of_pos (by simpa using c1), List.filter_cons_of_neg (by simp; omega), ih]; rfl
    · have e1 : R.filter (fun b => decide (b.t < x)) = [] := List.filter_eq_nil_iff.2 fun y hy => by have := h1 y hy; simp; omega
      rw [e1] at ih
      by_cases c2 : b.t = x
      · rw [List.filter_cons_of_neg (by simp; exact c2), List.filter_cons_of_neg (by simpa using c1), List.filter_cons_of_neg (by simp; omega), e1, ih]
      · rw [List.filter_cons_of_pos (by simpa using c2), List.filter_cons_of_neg (by simpa using c1), List.filter_cons_of_pos (by simp; omega), e1, ih]; rfl
theorem delR_cut {R : List Ar} (h : RiseR R) {x : Int} (hi : isR R x = true) : R.take (posR R x) ++ R.drop (posR R x + 1) = delR R x := by
  obtain ⟨b, h1, _, _⟩ := isR_true h hi
  have h3 : R.drop (posR R x + 1) = (ltR R x ++ b :: gtR R x).drop ((ltR R x).length + 1) := by unfold posR; rw [← h1]
  rw [ltR_take h, h3, drop_mid, filter_ne_R h]
theorem delR_none {R : List Ar} {x : Int} (hi : isR R x = false) : delR R x = R := List.filter_eq_self.2 fun b hb => by
  simp
  intro e
  have : isR R x = true := List.any_eq_true.2 ⟨b, hb, by simpa using e⟩
  rw [this] at hi; cases hi
theorem RiseI.new {R : List Int} (h : RiseI R) (x : Int) : RiseI (newI R x) := by
  unfold newI RiseI
  rw [List.pairwise_append]
  refine ⟨List.Pairwise.filter _ h, List.pairwise_cons.2 ⟨fun b hb => ?_, List.Pairwise.filter _ h⟩, fun b hb c hc => ?_⟩
  · unfold gtI at hb; have := (List.mem_filter.1 hb).2; simpa using this
  · have hb' : b < x := by unfold ltI at hb; have := (List.mem_filter.1 hb).2; simpa using this
    rcases List.mem_cons.1 hc with rfl | hc
    · exact hb'
    · unfold gtI at hc; have := (List.mem_filter.1 hc).2; simp at this; omega
theorem inF_new {L : List Ar} (h : SortN L) (a : Ar) (v : Int) : inF (newN L a) v = if v = a.t then newI (inF L v) a.f else inF L v := by
  by_cases hv : v = a.t
  · rw [if_pos hv]
    subst hv
    have e1 : inL (newN L a) a.t = (inL L a.t).filter (fun b => decide (b.f < a.f)) ++ a :: (inL L a.t).filter (fun b => decide (a.f < b.f)) := by
      unfold inL newN ltN gtN
      rw [List.filter_append, List.filter_cons_of_pos (by simp), List.filter_filter, List.filter_filter, List.filter_filter, List.filter_filter]
      have e1 : ∀ b : Ar, (decide (b.t = a.t) && decide (keyLt b a)) = (decide (b.f < a.f) && decide (b.t = a.t)) := fun b => by
        by_cases c : b.t = a.t <;> simp [c, keyLt]
      have e2 : ∀ b : Ar, (decide (b.t = a.t) && decide (keyLt a b)) = (decide (a.f < b.f) && decide (b.t = a.t)) := fun b => by
        by_cases c : b.t = a.t <;> simp [c, keyLt]
      congr 1
      · exact congrArg (fun p => List.filter p L) (funext e1)
      · congr 1
        exact congrArg (fun p => List.filter p L) (funext e2)
    unfold inF newI ltI gtI
    rw [e1, List.map_append, List.map_cons, List.filter_map, List.filter_map]
    rfl
  · rw [if_neg hv]
    unfold inF
    congr 1
    have h1 := congrArg (fun l => inL l v) (split3 h a)
    have h2 : inL (eqN L a) v = [] := by
      unfold inL eqN
      rw [List.filter_filter, List.filter_eq_nil_iff]
      intro b hb; simp; omega
    have h3 : inL (ltN L a ++ (eqN L a ++ gtN L a)) v = inL (ltN L a) v ++ (inL (eqN L a) v ++ inL (gtN L a) v) := by unfold inL; rw [List.filter_append, List.filter_append]
    have h4 : inL (newN L a) v = inL (ltN L a) v ++ inL (gtN L a) v := by unfold inL newN; rw [List.filter_append, List.filter_cons_of_neg (by simp; omega)]
    rw [h4]
    show _ = inL L v
    rw [h1]
    show _ = inL (ltN L a ++ (eqN L a ++ gtN L a)) v
    rw [h3, h2, List.nil_append]
theorem outL_cut (L : List Ar) (v u : Int) : outL (cutN L v) u = if u = v then [] else delR (outL L u) v := by
  unfold outL cutN delR
  rw [List.filter_filter]
  by_cases h : u = v
  · rw [if_pos h, List.filter_eq_nil_iff]; intro b _; simp; omega
  · rw [if_neg h, List.filter_filter]
    refine congrArg (fun p => List.filter p L) (funext fun b => ?_)
    by_cases c : b.f = u
    · by_cases d : b.t = v <;> simp [c, d, h]
    · simp [c]
theorem inF_cut (L : List Ar) (v u : Int) : inF (cutN L v) u = if u = v then [] else delI (inF L u) v := by
  unfold inF inL cutN delI
  rw [List.filter_filter]
  by_cases h : u = v
  · rw [if_pos h, List.map_eq_nil_iff, List.filter_eq_nil_iff]; intro b _; simp; omega
  · rw [if_neg h, List.filter_map, List.filter_filter]
    refine congrArg (fun p => List.map (·.f) (List.filter p L)) (funext fun b => ?_)
    by_cases c : b.t = u
    · by_cases d : b.f = v <;> simp [c, d, h]
    · simp [c]
theorem outL_all {L : List Ar} (h : SortN L) : ∀ n : Nat, (∀ b ∈ L, 0 ≤ b.f ∧ b.f < (n : Int)) → (List.range n).flatMap (fun v : Nat => outL L (v : Int)) = L := by
  have key : ∀ n : Nat, (∀ b ∈ L, 0 ≤ b.f) → (List.range n).flatMap (fun v : Nat => outL L (v : Int)) = L.filter (fun b => decide (b.f < (n : Int))) := by
    intro n h0
    induction n with
    | zero =>
      have e : L.filter (fun b => decide (b.f < ((0 : Nat) : Int))) = [] := by
        rw [List.filter_eq_nil_iff]; intro b hb; have := h0 b hb; simp; omega
      rw [e]; rfl
    | succ n ih =>
      rw [List.range_succ, List.flatMap_append, ih]
      show _ ++ (outL L (n : Int) ++ []) = _
      rw [List.append_nil]
      clear ih
      induction L with
      | nil => rfl
      | cons b L ih2 =>
        obtain ⟨h1, h2⟩ := List.pairwise_cons.1 h
        have ih2 := ih2 h2 (fun b hb => h0 b (List.mem_cons_of_mem _ hb))
        unfold outL at *
        by_cases c : b.f < (n : Int)
        · rw [List.filter_cons_of_pos (by simpa using c), List.filter_cons_of_neg (by simp; omega), List.filter_cons_of_pos (by simp; omega), ← ih2]; rfl
        · have e1 : L.filter (fun b => decide (b.f < (n : Int))) = [] := List.filter_eq_nil_iff.2 fun y hy => by have := h1 y hy; unfold keyLt at this; simp; omega
          rw [e1, List.nil_append] at ih2
          rw [List.filter_cons_of_neg (by simpa using c), e1]
          by_cases d : b.f = (n : Int)
          · rw [List.filter_cons_of_pos (by simpa using d), List.filter_cons_of_pos (by simp; omega), List.nil_append, ih2]
          · rw [List.filter_cons_of_neg (by simpa using d), List.filter_cons_of_neg (by simp; omega), List.nil_append, ih2]
  intro n hb
  rw [key n (fun b hb2 => (hb b hb2).1), List.filter_eq_self]
  intro b hb2; simpa using (hb b hb2).2
def mayA (n : Nat) (a : Ar) : Prop := 0 ≤ a.f ∧ a.f < (n : Int) ∧ 0 ≤ a.t ∧ a.t < (n : Int) ∧ a.f ≠ a.t ∧ 1 ≤ a.w ∧ a.w ≤ 1099511627776 ∧ (a.m = -1 ∨ (0 ≤ a.m ∧ a.m < (n : Int) ∧ a.m ≠ a.f ∧ a.m ≠ a.t))
instance (n : Nat) (a : Ar) : Decidable (mayA n a) := by unfold mayA; infer_instance
structure NetOk (n : Nat) (L : List Ar) : Prop where
  sort : SortN L
  may : ∀ b ∈ L, mayA n b
theorem NetOk.nil (n : Nat) : NetOk n [] := ⟨List.Pairwise.nil, fun b hb => by simp at hb⟩
def putB (L : List Ar) (a : Ar) : Bool := (eqN L a).all fun b => decide (a.w < b.w)
def putN (L : List Ar) (a : Ar) : List Ar := if putB L a then newN L a else L
theorem NetOk.put {n : Nat} {L : List Ar} (h : NetOk n L) {a : Ar} (ha : mayA n a) : NetOk n (putN L a) := by
  unfold putN
  split
  · refine ⟨h.sort.new a, fun b hb => ?_⟩
    rcases mem_newN.1 hb with rfl | ⟨hb, _⟩
    · exact ha
    · exact h.may b hb
  · exact h
theorem NetOk.cut {n : Nat} {L : List Ar} (h : NetOk n L) (v : Int) : NetOk n (cutN L v) := ⟨h.sort.cut v, fun b hb => h.may b (mem_cutN.1 hb).1⟩
end Mile
namespace Mile
open Go Go.RowKit
def c4 (b : Ar) : List Value := [.int .i64 b.f, .int .i64 b.t, .int .i64 b.w, .int .i64 b.m]
theorem c4_len (R : List Ar) : (R.flatMap c4).length = R.length * 4 := by
  induction R with
  | nil => rfl
  | cons b R ih => rw [List.flatMap_cons, List.length_append, ih, List.length_cons]; simp [c4]; omega
theorem c4_at : ∀ (R : List Ar) (i : Nat) (hi : i < R.length), (R.flatMap c4)[i * 4 + 0]? = some (.int .i64 R[i].f) ∧ (R.flatMap c4)[i * 4 + 1]? = some (.int .i64 R[i].t) ∧ (R.flatMap c4)[i * 4 + 2]? = some (.int .i64 R[i].w) ∧ (R.flatMap c4)[i * 4 + 3]? = some (.int .i64 R[i].m)
  | [], i, hi => by simp at hi
  | b :: R, 0, _ => ⟨rfl, rfl, rfl, rfl⟩
  | b :: R, i + 1, hi => by
    have h := c4_at R i (by simpa using hi)
    have e : ∀ k, ((b :: R).flatMap c4)[(i + 1) * 4 + k]? = (R.flatMap c4)[i * 4 + k]? := fun k => by
      rw [List.flatMap_cons, List.getElem?_append_right (by simp [c4]; omega)]
      congr 1
      simp [c4]; omega
    simp only [e]
    exact h
theorem rd4 {w : World} {n c : Nat} {a : Option Addr} {R : List Ar} (h : Rd w 4 (.slice a n c) n (R.flatMap c4)) (i : Nat) (hi : i < R.length) :
    ∃ b o, elemA a i 4 = ⟨b, o, none⟩ ∧ w.cell? ⟨b, o, none⟩ = some (.int .i64 R[i].f) ∧ w.cell? ⟨b, o + 1, none⟩ = some (.int .i64 R[i].t) ∧ w.cell? ⟨b, o + 2, none⟩ = some (.int .i64 R[i].w) ∧ w.cell? ⟨b, o + 3, none⟩ = some (.int .i64 R[i].m) := by
  have hn : n = R.length := by have := h.1; rw [c4_len] at this; omega
  obtain ⟨b, o, hp, _⟩ := h.place (j := i) (by omega)
  obtain ⟨g0, g1, g2, g3⟩ := c4_at R i hi
  exact ⟨b, o, hp, by have := h.elemN hp 0 g0; simpa using this, h.elemN hp 1 g1, h.elemN hp 2 g2, h.elemN hp 3 g3⟩
theorem c4_one (R : List Ar) : ∀ u ∈ R.flatMap c4, u.oneCell' = true := by
  intro u hu
  obtain ⟨b, _, hu⟩ := List.mem_flatMap.1 hu
  simp [c4] at hu
  rcases hu with rfl | rfl | rfl | rfl <;> rfl
theorem c4_take (R : List Ar) (k : Nat) : (R.flatMap c4).take (k * 4) = (R.take k).flatMap c4 := by
  induction R generalizing k with
  | nil => simp
  | cons b R ih =>
    cases k with
    | zero => simp
    | succ k => rw [List.take_succ_cons, List.flatMap_cons, List.flatMap_cons, show (k + 1) * 4 = (c4 b).length + k * 4 by simp [c4]; omega, List.take_length_add_append, ih]
theorem c4_drop (R : List Ar) (k : Nat) : (R.flatMap c4).drop (k * 4) = (R.drop k).flatMap c4 := by
  induction R generalizing k with
  | nil => simp
  | cons b R ih =>
    cases k with
    | zero => simp
    | succ k => rw [List.drop_succ_cons, List.flatMap_cons, show (k + 1) * 4 = (c4 b).length + k * 4 by simp [c4]; omega, List.drop_length_add_append, ih]
theorem rise_at {R : List Ar} (h : RiseR R) {i j : Nat} (hj : j < R.length) (hij : i < j) : (R[i]'(by omega)).t < R[j].t := List.pairwise_iff_getElem.1 h i j (by omega) hj hij
theorem posR_of {R : List Ar} {x : Int} {i : Nat} (hi : i ≤ R.length) (h1 : ∀ t (ht : t < R.length), t < i → R[t].t < x) (h2 : ∀ t (ht : t < R.length), i ≤ t → x ≤ R[t].t) : posR R x = i := by
  unfold posR ltR
  have e : R = R.take i ++ R.drop i := (List.take_append_drop i R).symm
  rw [e, List.filter_append, List.length_append]
  have e1 : (R.take i).filter (fun b => decide (b.t < x)) = R.take i := List.filter_eq_self.2 fun b hb => by
    obtain ⟨t, ht, rfl⟩ := List.getElem_of_mem hb
    rw [List.length_take] at ht
    rw [List.getElem_take]
    simpa using h1 t (by omega) (by omega)
  have e2 : (R.drop i).filter (fun b => decide (b.t < x)) = [] := List.filter_eq_nil_iff.2 fun b hb => by
    obtain ⟨t, ht, rfl⟩ := List.getElem_of_mem hb
    rw [List.length_drop] at ht
    rw [List.getElem_drop]
    have := h2 (i + t) (by omega) (by omega)
    simp; omega
  rw [e1, e2, List.length_take]
  simp; omega
theorem isR_of {R : List Ar} (hr : RiseR R) {x : Int} {i : Nat} (h1 : ∀ t (ht : t < R.length), t < i → R[t].t < x) (h2 : ∀ t (ht : t < R.length), i ≤ t → x ≤ R[t].t) (b : Bool) (hb : ∀ h : i < R.length, b = decide (R[i].t = x)) (hn : ¬ i < R.length → b = false) : isR R x = b := by
  unfold isR
  rw [Bool.eq_iff_iff, List.any_eq_true]
  constructor
  · rintro ⟨y, hy, e⟩
    obtain ⟨t, ht, rfl⟩ := List.getElem_of_mem hy
    have e : R[t].t = x := by simpa using e
    rcases Nat.lt_trichotomy t i with g | g | g
    · have := h1 t ht g; omega
    · subst g; rw [hb ht]; simpa using e
    · have := h2 i (by omega) (Nat.le_refl _)
      have := rise_at hr ht g; omega
  · intro h
    by_cases hi : i < R.length
    · rw [hb hi] at h
      exact ⟨R[i], List.getElem_mem hi, h⟩
    · rw [hn hi] at h; cases h
end Mile
namespace Go.Proofs.YtjjedebjbgpimaaGreat
open Go.RowKit Mile
set_option maxRecDepth 100000
theorem Nt.infoA : (Tryz.prog.info? 50).map (fun i => (i.zero, i.size, i.bytes)) = some (some (.agg #[.int .i64 0, .int .i64 0, .int .i64 0, .int .i64 0]), 4, 32) := by kernel_rfl
theorem Nt.infoI : (Tryz.prog.info? 3).map (fun i => (i.zero, i.size, i.bytes)) = some (some (.int .i64 0), 1, 8) := by kernel_rfl
theorem nt_isNaN (x : Int) (w : World) : Calls Tryz.prog 125 #[.int .i64 x] w fun e w' => e = .returned (.bool false) ∧ w = w' := by
  go_enter Tryz.func125, Tryz.ntmps125
  go_wp2_with fail
  go_ret
  exact ⟨by simp, rfl⟩
def cmpN (x y : Int) : Int := if x < y then -1 else if y < x then 1 else 0
theorem nt_compare (x y : Int) (w : World) : Calls Tryz.prog 100 #[.int .i64 x, .int .i64 y] w fun e w' => e = .returned (.int .i64 (cmpN x y)) ∧ w = w' := by
  by_cases h1 : x < y
  · go_enter Tryz.func100, Tryz.ntmps100
    go_wp2_with (go_at_call 125; refine (nt_isNaN _ _).mono ?_; rintro e w' ⟨rfl, rfl⟩)
    go_ret
    exact ⟨by simp [cmpN, h1], rfl⟩
  · by_cases h2 : y < x
    · go_enter Tryz.func100, Tryz.ntmps100
      go_wp2_with (go_at_call 125; refine (nt_isNaN _ _).mono ?_; rintro e w' ⟨rfl, rfl⟩)
      go_ret
      exact ⟨by simp [cmpN, h1, h2], rfl⟩
    · have e : cmpN x y = 0 := by unfold cmpN; rw [if_neg h1, if_neg h2]
      rw [e]
      clear e
      go_enter Tryz.func100, Tryz.ntmps100
      go_wp2_with (go_at_call 125; refine (nt_isNaN _ _).mono ?_; rintro e w' ⟨rfl, rfl⟩)
      go_ret
      exact ⟨rfl, rfl⟩
theorem nt_place1 (f t v m x : Int) (w : World) : Calls Tryz.prog 99 #[.agg #[.int .i64 f, .int .i64 t, .int .i64 v, .int .i64 m], .int .i64 x] w fun e w' => e = .returned (.int .i64 (cmpN t x)) ∧ Mod (fun _ => False) w w' := by
  go_enter Tryz.func99, Tryz.ntmps99
  go_wp2_with fail
  refine (nt_compare t x _).mono ?_
  rintro e w' ⟨rfl, hw⟩
  have hm : Mod (fun _ => False) w w' := by rw [← hw]; exact Mod.alloc _ _ _
  have HM := Lib.hid hm
  clear hw hm
  go_wp2_with fail
  go_ret
  exact ⟨rfl, HM.out⟩
set_option maxHeartbeats 4000000 in
theorem nt_search (w : World) (a : Option Addr) (n c : Nat) (R : List Ar) (hn : R.length = n) (hr : Rd w 4 (.slice a n c) n (R.flatMap c4)) (hs : RiseR R) (hb : n ≤ 100000) (x : Int) :
    Calls Tryz.prog 98 #[.slice a n c, .int .i64 x, .func (.func 99) #[] #[]] w fun e w' => e = .returned (.tuple #[.int .i64 (posR R x : Int), .bool (isR R x)]) ∧ Mod (fun _ => False) w w' := by
  obtain ⟨iB, hiB, hzB, hsB, hbB⟩ := info_parts Nt.infoA
  have HN := Lib.hid hn
  have HS := Lib.hid hs
  obtain ⟨ps, hps⟩ : ∃ r, posR R x = r := ⟨_, rfl⟩
  obtain ⟨is, his⟩ : ∃ r, isR R x = r := ⟨_, rfl⟩
  rw [hps, his]
  have HPS := Lib.hid hps
  have HIS := Lib.hid his
  clear hn hs hps his
  go_enter Tryz.func98, Tryz.ntmps98
  go_wp2_with fail
  go_loopw [9, 10, 11] (fun vi vj _ wr => ∃ i j : Nat, i ≤ j ∧ j ≤ n ∧ vi = .int .i64 i ∧ vj = .int .i64 j ∧ Mod (fun _ => False) w wr ∧ (∀ t (ht : t < R.length), t < i → R[t].t < x) ∧ (∀ t (ht : t < R.length), j ≤ t → x ≤ R[t].t)) (fun vi vj _ _ => (intOf vj - intOf vi).toNat)
  case atStart => exact ⟨0, n, by omega, Nat.le_refl _, rfl, rfl, Mod.refl _ _, fun t _ h => by omega, fun t ht h => by rw [HN.out] at ht; omega⟩
  case round =>
    obtain ⟨i, j, hij, hjn, rfl, rfl, hM, hlo, hhi⟩ := hrel
    have HLO := Lib.hid hlo
    have HHI := Lib.hid hhi
    clear hlo hhi
    by_cases hlt : i < j
    · obtain ⟨h, hh⟩ : ∃ h, (i + j) / 2 = h := ⟨_, rfl⟩
      have hh1 : i ≤ h := by omega
      have hh2 : h < j := by omega
      have hhi : ((i : Int) + (j : Int)) / 2 = (h : Int) := by omega
      have hhl : h < R.length := by rw [HN.out]; omega
      obtain ⟨b, o, hpl, e0, e1, e2, e3⟩ := rd4 (hr.keepA hM (fun _ _ e => e.elim)) h hhl
      have hix := fun wx => run_indexS (P := Tryz.prog) wx 34 50 iB 4 Tryz.underlying34 hiB hsB a n c h (by omega) (hr.some_ (by omega))
      rw [hpl] at hix
      obtain ⟨y1, hy1⟩ : ∃ Y, R[h].t = Y := ⟨_, rfl⟩
      obtain ⟨y0, hy0⟩ : ∃ Y, R[h].f = Y := ⟨_, rfl⟩
      obtain ⟨y2, hy2⟩ : ∃ Y, R[h].w = Y := ⟨_, rfl⟩
      obtain ⟨y3, hy3⟩ : ∃ Y, R[h].m = Y := ⟨_, rfl⟩
      rw [hy0] at e0
      rw [hy1] at e1
      rw [hy2] at e2
      rw [hy3] at e3
      have HY := Lib.hid hy1
      have HM := Lib.hid hM
      clear hy0 hy1 hy2 hy3 hpl hh hM
      go_wp2_with fail
      refine (nt_place1 y0 y1 y2 y3 x _).mono ?_
      rintro e w1 ⟨rfl, hm1⟩
      have HMW := Lib.hid (HM.out.of2 hm1)
      clear hm1 e0 e1 e2 e3 hix
      by_cases hc : y1 < x
      · have hcm : cmpN y1 x = -1 := by unfold cmpN; rw [if_pos hc]
        rw [hcm]
        have HC := Lib.hid hc
        clear hcm hc
        go_wp2_with fail
        go_roundw
        case rel =>
          refine ⟨h + 1, j, by omega, hjn, by go_num, rfl, HMW.out, fun t ht htj => ?_, HHI.out⟩
          by_cases e : t = h
          · subst e; rw [HY.out]; exact HC.out
          · have := rise_at HS.out hhl (show t < h by omega)
            rw [HY.out] at this
            have := HC.out; omega
        case measure => simp [intOf]; omega
      · obtain ⟨cv, hcv⟩ : ∃ cv, cmpN y1 x = cv := ⟨_, rfl⟩
        have hcp : decide (cv < 0) = false := by rw [← hcv]; unfold cmpN; rw [if_neg hc]; split <;> simp
        rw [hcv]
        have HC := Lib.hid hc
        clear hc hcv
        go_wp2_with fail
        go_roundw
        case rel =>
          refine ⟨i, h, hh1, by omega, rfl, rfl, HMW.out, HLO.out, fun t ht htj => ?_⟩
          by_cases e : t = h
          · subst e; rw [HY.out]; have := HC.out; omega
          · have := rise_at HS.out ht (show h < t by omega)
            rw [HY.out] at this
            have := HC.out; omega
        case measure => simp [intOf]; omega
    · obtain rfl : i = j := by omega
      have hpi : ps = i := by rw [← HPS.out]; exact posR_of (by rw [HN.out]; exact hjn) HLO.out HHI.out
      subst hpi
      by_cases hin : ps < n
      · have hil : ps < R.length := by rw [HN.out]; exact hin
        obtain ⟨b, o, hpl, e0, e1, e2, e3⟩ := rd4 (hr.keepA hM (fun _ _ e => e.elim)) ps hil
        have hix := fun wx => run_indexS (P := Tryz.prog) wx 34 50 iB 4 Tryz.underlying34 hiB hsB a n c ps hin (hr.some_ (by omega))
        rw [hpl] at hix
        obtain ⟨y1, hy1⟩ : ∃ Y, R[ps].t = Y := ⟨_, rfl⟩
        obtain ⟨y0, hy0⟩ : ∃ Y, R[ps].f = Y := ⟨_, rfl⟩
        obtain ⟨y2, hy2⟩ : ∃ Y, R[ps].w = Y := ⟨_, rfl⟩
        obtain ⟨y3, hy3⟩ : ∃ Y, R[ps].m = Y := ⟨_, rfl⟩
        rw [hy0] at e0
        rw [hy1] at e1
        rw [hy2] at e2
        rw [hy3] at e3
        have hq : is = (cmpN y1 x == 0) := by
          rw [← HIS.out]
          refine isR_of HS.out HLO.out HHI.out _ (fun h => ?_) (fun h => absurd hil h)
          rw [hy1]
          unfold cmpN
          by_cases g1 : y1 < x
          · rw [if_pos g1]; simp; omega
          · by_cases g2 : x < y1
            · rw [if_neg g1, if_pos g2]; simp; omega
            · rw [if_neg g1, if_neg g2]; simp; omega
        have HM := Lib.hid hM
        have HQ := Lib.hid hq
        clear hy0 hy1 hy2 hy3 hpl hM hq
        have z0 : decide ((ps : Int) < (n : Int)) = true := by simp; omega
        go_wp2_with fail
        refine (nt_place1 y0 y1 y2 y3 x _).mono ?_
        rintro e w1 ⟨rfl, hm1⟩
        have HMW := Lib.hid (HM.out.of2 hm1)
        clear hm1 e0 e1 e2 e3 hix
        go_wp2_with fail
        go_ret2
        exact ⟨by rw [HQ.out]; rfl, HMW.out⟩
      · have hr0 : is = false := by
          rw [← HIS.out]
          exact isR_of HS.out HLO.out HHI.out false (fun h => absurd (by rw [HN.out] at h; exact h) hin) (fun _ => rfl)
        subst hr0
        have HM := Lib.hid hM
        have z0 : decide ((ps : Int) < (n : Int)) = false := by simp; omega
        clear hM
        go_wp2_with fail
        go_ret2
        exact ⟨rfl, HM.out⟩
theorem nt_place (w : World) (a : Option Addr) (n c : Nat) (R : List Ar) (hn : R.length = n) (hr : Rd w 4 (.slice a n c) n (R.flatMap c4)) (hs : RiseR R) (hb : n ≤ 100000) (x : Int) :
    Calls Tryz.prog 68 #[.slice a n c, .int .i64 x] w fun e w' => e = .returned (.tuple #[.int .i64 (posR R x : Int), .bool (isR R x)]) ∧ Mod (fun _ => False) w w' := by
  have HS := Lib.hid (nt_search w a n c R hn hr hs hb x)
  clear hn hr hs
  go_enter Tryz.func68, Tryz.ntmps68
  go_wp2_with fail
  refine HS.out.mono ?_
  rintro e w1 ⟨rfl, hm⟩
  have HM := Lib.hid hm
  clear hm
  go_wp2_with fail
  go_ret2
  exact ⟨rfl, HM.out⟩
end Go.Proofs.YtjjedebjbgpimaaGreat
namespace Go.Proofs.YtjjedebjbgpimaaGreat
open Go.RowKit Mile
set_option maxRecDepth 100000
def InsIP (a : Option Addr) (n c i : Nat) (xs x : List Value) (w : World) (e : Ending) (w' : World) : Prop :=
  ∃ a' c', e = .returned (.slice a' (n + 1) c') ∧ w'.ownsRow 0 3 1 (.slice a' (n + 1) c') (n + 1) (xs.take (i * 1) ++ x ++ xs.drop (i * 1)) ∧ Mod (fun k => (Value.slice a n c).ownBlock = some k) w w' ∧ ∀ k, (Value.slice a' (n + 1) c').ownBlock = some k → (Value.slice a n c).ownBlock = some k ∨ w.heap.size ≤ k
set_option maxHeartbeats 8000000 in
theorem insI_end (w : World) (a : Option Addr) (n c i : Nat) (xs : List Value) (h1 : ∀ u ∈ xs, u.oneCell' = true) (ho : w.ownsRow 0 3 1 (.slice a n c) n xs) (hn : n ≤ 100000) (gv : Nat) (x : List Value) (hx : Rd w 1 (.slice (some ⟨gv, 0, none⟩) 1 1) 1 x) (hxb : Blk w gv 3 x) (hx1 : ∀ u ∈ x, u.oneCell' = true) (hne : (Value.slice a n c).ownBlock ≠ some gv) (hi : i = n) :
    Calls Tryz.prog 124 #[.slice a n c, .int .i64 (i : Int), .slice (some ⟨gv, 0, none⟩) 1 1] w fun e w' => InsIP a n c i xs x w e w' := by
  obtain ⟨iA, hiA, hzA, hsA, hbA⟩ := info_parts Nt.infoI
  have hdr := fun wx => run_dropS (P := Tryz.prog) wx 40 3 iA 1 Tryz.underlying40 hiA hsA a n c i (by omega)
  have z0 : ((1 : Int) == 0) = false := by decide
  have z1 : ((i : Int) == (n : Int)) = true := by simp; omega
  have hmx1 : n + 1 ≤ maxLen := by unfold maxLen; omega
  have HO := Lib.hid ho
  have HX := Lib.hid hx
  have hxl : xs.length = i * 1 := by rw [ho.1, hi]
  have HXL := Lib.hid hxl
  clear ho hx hxb hne h1 hxl hi
  go_enter Tryz.func124, Tryz.ntmps124
  go_wp2_with (first | (at_builtin; refine wpList_append_any rfl (.tmp 23) (.tmp 24) 40 rfl 3 iA (.int .i64 0) 1 8 Tryz.underlying40 hiA hzA hsA hbA rfl (by decide) _ n xs rfl HO.out _ 1 x rfl HX.out hx1 hmx1 (by omega) ?_; intro v7 w7 hap; obtain ⟨a7, c7, rfl⟩ := hap.form; have HAP := Lib.hid hap; clear hap))
  (try go_wp2_with fail)
  go_ret
  refine ⟨a7, c7, rfl, ?_, HAP.out.mod, HAP.out.row⟩
  have h2 := HAP.out.own
  rw [show xs.take (i * 1) = xs from List.take_of_length_le (Nat.le_of_eq HXL.out), show xs.drop (i * 1) = [] from List.drop_of_length_le (Nat.le_of_eq HXL.out), List.append_nil]
  exact h2
set_option maxHeartbeats 8000000 in
theorem insI_room (w : World) (a : Option Addr) (n c i : Nat) (xs : List Value) (h1 : ∀ u ∈ xs, u.oneCell' = true) (ho : w.ownsRow 0 3 1 (.slice a n c) n xs) (hn : n ≤ 100000) (gv : Nat) (x : List Value) (hx : Rd w 1 (.slice (some ⟨gv, 0, none⟩) 1 1) 1 x) (hxb : Blk w gv 3 x) (hx1 : ∀ u ∈ x, u.oneCell' = true) (hne : (Value.slice a n c).ownBlock ≠ some gv) (hi : i < n) (hc : n + 1 ≤ c) :
    Calls Tryz.prog 124 #[.slice a n c, .int .i64 (i : Int), .slice (some ⟨gv, 0, none⟩) 1 1] w fun e w' => InsIP a n c i xs x w e w' := by
  obtain ⟨iA, hiA, hzA, hsA, hbA⟩ := info_parts Nt.infoI
  obtain ⟨g, c2, hab, hlo, hlt⟩ := own_block ho (by omega)
  cases hab
  have hgv : gv ≠ g := fun e => hne (by rw [e]; rfl)
  have hn63 : c ≤ maxLen := by obtain ⟨_, h | ⟨g2, cap, cur, he, _, _, hc1, hc2, _⟩⟩ := ho; exact absurd h.1 (by simp); cases he; exact hc2
  have hc63 : c ≤ 9223372036854775807 := by unfold maxLen at hn63; omega
  have hdr := fun wx => run_dropS (P := Tryz.prog) wx 40 3 iA 1 Tryz.underlying40 hiA hsA (some ⟨g, 0, none⟩) n c i (by omega)
  have htk := fun wx => run_takeS (P := Tryz.prog) wx 40 3 iA Tryz.underlying40 hiA (some ⟨g, 0, none⟩) n c (n + 1) hc
  have hdr1 := fun wx => run_dropS (P := Tryz.prog) wx 40 3 iA 1 Tryz.underlying40 hiA hsA (some ⟨g, 0, none⟩) (n + 1) c (i + 1) (by omega)
  have hdr0 := fun wx => run_dropS (P := Tryz.prog) wx 40 3 iA 1 Tryz.underlying40 hiA hsA (some ⟨g, 0, none⟩) (n + 1) c i (by omega)
  have hA1 : dropA (some ⟨g, 0, none⟩) c (i + 1) 1 = some ⟨g, (i + 1) * 1, none⟩ := by unfold dropA; rw [if_neg (by omega)]; show some (Addr.add _ _) = _; rw [Addr.add_lit, Nat.zero_add]
  have hA0 : dropA (some ⟨g, 0, none⟩) c i 1 = some ⟨g, i * 1, none⟩ := by unfold dropA; rw [if_neg (by omega)]; show some (Addr.add _ _) = _; rw [Addr.add_lit, Nat.zero_add]
  rw [hA1, show n + 1 - (i + 1) = n - i by omega] at hdr1
  rw [hA0] at hdr0 hdr
  have z0 : ((1 : Int) == 0) = false := by decide
  have z1 : ((i : Int) == (n : Int)) = false := by rw [beq_eq_false_iff_ne]; omega
  have hw1 : IntKind.i64.wrap ((n : Int) + 1) = (n : Int) + 1 := IntWalk.i64_in _ (by omega)
  have hw2 : IntKind.i64.wrap ((i : Int) + 1) = (i : Int) + 1 := IntWalk.i64_in _ (by omega)
  have hq1 : ((n + 1 : Nat) : Int) = (n : Int) + 1 := by omega
  have hq2 : ((i + 1 : Nat) : Int) = (i : Int) + 1 := by omega
  have z2n : decide ((c : Int) < (n : Int) + 1) = false := by simp; omega
  have hshv : ∀ W, Mod (fun _ => False) w W → W.shape? gv = some (3, x.length) := fun W m => by have := hxb.keep m (fun e => e); unfold World.shape?; unfold Blk at this; rw [this]; simp
  have hxlen : x.length = 1 := by have := hx.1; omega
  obtain ⟨zs, hoz, hzt⟩ := own_widenS ho (n := n + 1) (by omega) hc
  have hcap : ∃ cur, w.heap[g]? = some (.cells cur 3 (0, 0)) ∧ cur.size = c * 1 := by obtain ⟨_, h | ⟨g2, cap, cur, he, _, hb, hc1, hc2, hcs, _⟩⟩ := ho; exact absurd h.1 (by simp); cases he; exact ⟨cur, hb, hcs⟩
  obtain ⟨cur, hcur, hcs⟩ := hcap
  have hov : ∀ lb cb, (callFunc 141 #[.slice (some ⟨gv, 0, none⟩) 1 1, .slice (some ⟨g, (i + 1) * 1, none⟩) lb cb]).run Tryz.prog w = .ok (.value (.bool false)) w := fun lb cb => by
    rw [run_callFunc_extern Tryz.func141 (by kernel_rfl) (by kernel_rfl) (by kernel_rfl) (e := Extern.SlicesOverlaps.overlaps #[40, 40] #[4]) (by kernel_rfl),
      Lib.run_overlaps_apart w 40 4 3 Tryz.underlying40 1 (fun w => by simp [Go.sizeOf, typeInfo, hiA, hsA]) ⟨gv, 0, none⟩ ⟨g, (i + 1) * 1, none⟩ 1 1 lb cb hgv 3 3 x.length (c * 1) (hshv w (Mod.refl _ _)) (by show w.shape? g = _; unfold World.shape?; rw [hcur]; simp [hcs]) (by omega) (hxb.free 0) (by show w.frozen? ⟨gv, x.length, none⟩ = false; exact hxb.free _)]
    rfl
  have hrd := (Rd.ofOwn ho).drop (show i ≤ n by omega)
  have hrdz := (Rd.ofOwn hoz).drop (show i ≤ n + 1 by omega)
  rw [hA0] at hrdz
  have HO := Lib.hid ho
  have HOZ := Lib.hid hoz
  have HZT := Lib.hid hzt
  have HH1 := Lib.hid h1
  have HXB := Lib.hid hxb
  have HXX := Lib.hid hx
  have HRZ := Lib.hid hrdz
  have hzd : (zs.drop (i * 1)).take ((n - i) * 1) = xs.drop (i * 1) := by rw [← hzt, List.drop_take, Nat.sub_mul]
  have hsrc : ∀ W, Mod (fun _ => False) w W → Rd W 1 (.slice (some ⟨g, i * 1, none⟩) (n + 1 - i) (c - i)) (n + 1 - i) (zs.drop (i * 1)) := fun W m => HRZ.out.keep m (fun _ _ e => e)
  have hcpA : ∀ (W : World), Mod (fun _ => False) w W → ∀ ty, (Builtin.copy_ #[40, 40] ty #[.slice (some ⟨g, (i + 1) * 1, none⟩) (n - i) (c - (i + 1)), .slice (some ⟨g, i * 1, none⟩) (n + 1 - i) (c - i)]).run Tryz.prog W = .ok (goInt (n - i : Nat)) (W.setCells g ((i + 1) * 1) (xs.drop (i * 1))) ∧ (W.setCells g ((i + 1) * 1) (xs.drop (i * 1))).ownsRow 0 3 1 (.slice (some ⟨g, 0, none⟩) (n + 1) c) (n + 1) (zs.take ((i + 1) * 1) ++ xs.drop (i * 1) ++ zs.drop ((i + 1) * 1 + (n - i) * 1)) := fun W m ty => by
    have h := run_copy_take (P := Tryz.prog) W 40 40 ty 3 iA 1 Tryz.underlying40 hiA hsA 0 g (n + 1) c zs (Own.keep HOZ.out m (fun _ _ e => e)) (i + 1) ((i + 1) * 1) (n - i) (c - (i + 1)) rfl (some ⟨g, i * 1, none⟩) (n + 1 - i) (c - i) (zs.drop (i * 1)) (hsrc W m) (n - i) (by show min _ _ = _; omega) (by omega) (by rw [hzd]; exact fun u hu => HH1.out u (List.mem_of_mem_drop hu))
    rw [hzd] at h
    exact h
  have hxs : xs.length = n * 1 := ho.1
  have hzl : zs.length = (n + 1) * 1 := hoz.1
  have hsh := put_shift xs x zs i n 1 hi hxs hxlen hzl hzt
  have HSH := Lib.hid hsh
  obtain ⟨w1, hw1e⟩ : ∃ y, w.drew.setCells g ((i + 1) * 1) (xs.drop (i * 1)) = y := ⟨_, rfl⟩
  have hcA := hcpA w.drew (Mod.drew _ _)
  rw [hw1e] at hcA
  have hm1 : Mod (fun k => k = g) w w1 := by rw [← hw1e]; exact (Mod.drew (fun k => k = g) w).trans (setCells_mod _ _ _) (fun _ _ e => e) (fun _ _ e => e)
  have hxw1 : Rd w1 1 (.slice (some ⟨gv, 0, none⟩) 1 1) 1 x := hx.keep hm1 (fun k hk e => by have h9 : gv = k := Option.some.inj hk; omega)
  have hcpB := fun (dc : Nat) ty => run_copy_own (P := Tryz.prog) w1 40 40 ty 3 iA 1 Tryz.underlying40 hiA hsA 0 g (n + 1) c _ (hcA 3).2 i (i * 1) (n + 1 - i) dc rfl (some ⟨gv, 0, none⟩) 1 1 x hxw1 hx1 1 (by show min _ _ = _; omega) (by omega)
  have hxt : x.take (1 * 1) = x := List.take_of_length_le (by omega)
  simp only [hxt, Nat.one_mul] at hcpB
  have HCA := Lib.hid (fun ty => (hcA ty).1)
  have HCB := Lib.hid hcpB
  have HM1 := Lib.hid hm1
  clear ho hoz hzt h1 hxb hx hrd hrdz hsrc hzd hcpA hcA hcpB hsh hw1e hm1 hxw1 hcur hcs hshv HRZ hxs hzl hA1 hA0 hxt
  rw [hq1] at htk
  rw [hq2] at hdr1
  have hcb1 := HCB.out
  clear hq1 hq2
  simp only [Nat.mul_one] at *
  go_enter Tryz.func124, Tryz.ntmps124
  go_wp2_with (simp only [hov])
  go_region_law (refine step_copy_own rfl (.tmp 73) (.tmp 76) 40 40 rfl (.slice (some ⟨g, i + 1, none⟩) (n - i) (c - (i + 1))) (.slice (some ⟨g, i, none⟩) (n + 1 - i) (c - i)) (by simp [Act.eval, Act.put]) (by simp [Act.eval, Act.put]) _ _ HCA.out ?_)
  all_goals
    have hcb2 := fun dc ty => (hcb1 dc ty).1
    clear hcb1
    go_wp2_with fail
    (try go_wp2_with fail)
    go_ret
    refine ⟨some ⟨g, 0, none⟩, c, rfl, ?_, ?_, fun k hk => .inl hk⟩
    · have h2 := (HCB.out 0 3).2
      rw [HSH.out] at h2
      simpa only [Nat.mul_one] using h2
    · exact (HM1.out.trans (setCells_mod _ _ _) (H := fun k => k = g) (fun _ _ e => e) (fun _ _ e => e)).mono (fun k _ e => by rw [e]; rfl)
set_option maxHeartbeats 8000000 in
theorem insI_grow (w : World) (a : Option Addr) (n c i : Nat) (xs : List Value) (h1 : ∀ u ∈ xs, u.oneCell' = true) (ho : w.ownsRow 0 3 1 (.slice a n c) n xs) (hn : n ≤ 100000) (gv : Nat) (x : List Value) (hx : Rd w 1 (.slice (some ⟨gv, 0, none⟩) 1 1) 1 x) (hxb : Blk w gv 3 x) (hx1 : ∀ u ∈ x, u.oneCell' = true) (hne : (Value.slice a n c).ownBlock ≠ some gv) (hi : i < n) (hc : ¬ n + 1 ≤ c) :
    Calls Tryz.prog 124 #[.slice a n c, .int .i64 (i : Int), .slice (some ⟨gv, 0, none⟩) 1 1] w fun e w' => InsIP a n c i xs x w e w' := by
  obtain ⟨iA, hiA, hzA, hsA, hbA⟩ := info_parts Nt.infoI
  obtain ⟨g, c2, hab, hlo, hlt⟩ := own_block ho (by omega)
  cases hab
  obtain rfl : n = c := by obtain ⟨_, h | ⟨g2, cap, cur, he, _, _, hc1, _⟩⟩ := ho; exact absurd h.1 (by simp); cases he; omega
  have hgv : gv < w.heap.size := hxb.lt
  have hdr := fun wx => run_dropS (P := Tryz.prog) wx 40 3 iA 1 Tryz.underlying40 hiA hsA (some ⟨g, 0, none⟩) n n i (by omega)
  have htk := fun wx => run_takeS (P := Tryz.prog) wx 40 3 iA Tryz.underlying40 hiA (some ⟨g, 0, none⟩) n n i (by omega)
  have hA0 : dropA (some ⟨g, 0, none⟩) n i 1 = some ⟨g, i * 1, none⟩ := by unfold dropA; rw [if_neg (by omega)]; show some (Addr.add _ _) = _; rw [Addr.add_lit, Nat.zero_add]
  rw [hA0] at hdr
  have z0 : ((1 : Int) == 0) = false := by decide
  have z1 : ((i : Int) == (n : Int)) = false := by rw [beq_eq_false_iff_ne]; omega
  have hw1 : IntKind.i64.wrap ((n : Int) + 1) = (n : Int) + 1 := IntWalk.i64_in _ (by omega)
  have hw2 : IntKind.i64.wrap ((i : Int) + 1) = (i : Int) + 1 := IntWalk.i64_in _ (by omega)
  have hq1 : ((n + 1 : Nat) : Int) = (n : Int) + 1 := by omega
  have hq2 : ((i + 1 : Nat) : Int) = (i : Int) + 1 := by omega
  have hw4 : IntKind.i64.wrap ((n : Int) + 1 - (i : Int)) = ((n + 1 - i : Nat) : Int) := by rw [IntWalk.i64_in _ (by omega)]; omega
  have z2n : decide ((n : Int) < (n : Int) + 1) = true := by simp; omega
  have hxs : xs.length = n * 1 := ho.1
  have hxlen : x.length = 1 := by have := hx.1; omega
  have hilt : i * 1 ≤ n * 1 := Nat.mul_le_mul_right _ (by omega)
  have hold : (Builtin.firstCells iA.size i (.slice (some ⟨g, 0, none⟩) i n)).run Tryz.prog w.drew = .ok (xs.take (i * 1)).toArray w.drew := by
    rw [hsA]
    have hr := Rd.ofOwn (Own.keep ho (Mod.drew (fun _ => False) w) (fun _ _ e => e))
    obtain ⟨_, a9, c9, he9, _, _, _, hcell⟩ := hr
    cases he9
    exact run_firstCells_some w.drew 1 i ⟨g, 0, none⟩ i n (xs.take (i * 1)) (by rw [List.length_take]; omega) (fun j v hj => (hcell _ rfl).2 j v (by rw [List.getElem?_take] at hj; split at hj; exact hj; cases hj))
  have hrz : ∀ ty, (Builtin.append_ #[40, 3] ty #[.slice (some ⟨g, 0, none⟩) i n, .int .i64 ((n + 1 - i : Nat) : Int)]).run Tryz.prog w = _ := fun ty => Lib.run_append_grow_zeros w 40 3 ty 3 iA (.int .i64 0) .i64 .i64 Tryz.underlying40 Tryz.underlying3 hiA hzA (some ⟨g, 0, none⟩) i n (xs.take (i * 1)) hold (n + 1 - i) (by omega) (by omega) (by omega) (by omega) (by rw [hbA]; omega) (by rw [hbA, show i + (n + 1 - i) = n + 1 by omega]; exact growslice_fits (by omega) (by omega))
  have hin : i + (n + 1 - i) = n + 1 := by omega
  rw [hin] at hrz
  obtain ⟨G, hG⟩ : ∃ G, grownCap w (n + 1) n 3 = G := ⟨_, rfl⟩
  have hGn : n + 1 ≤ G := by rw [← hG]; exact grownCap_ge w _ _ _
  have hGm : G ≤ maxLen := by rw [← hG]; exact grownCap_le_maxLen w (n + 1) n 3 (by unfold maxLen; omega)
  rw [hG] at hrz
  obtain ⟨ROW, hROW⟩ : ∃ ROW : Array Value, (xs.take (i * 1)).toArray ++ Builtin.zeroCells (Value.cells (.int .i64 0)) (n + 1 - i) ++ Builtin.zeroCells (Value.cells (.int .i64 0)) (G - (n + 1)) = ROW := ⟨_, rfl⟩
  rw [hROW] at hrz
  have hRl : ROW.size = G * 1 := by rw [← hROW]; simp [Builtin.zeroCells, Value.cells]; omega
  have hRt : ROW.toList.take (i * 1) = xs.take (i * 1) := by rw [← hROW, Array.toList_append, Array.toList_append, List.append_assoc, List.take_left' (by simp; omega)]
  obtain ⟨g2, hg2⟩ : ∃ y, w.heap.size = y := ⟨_, rfl⟩
  obtain ⟨W1, hW1⟩ : ∃ W1, w.drew.alloc (.cells ROW 3) = W1 := ⟨_, rfl⟩
  rw [hW1, hg2] at hrz
  have hm1 : Mod (fun _ => False) w W1 := by rw [← hW1]; exact (Mod.drew (fun _ => False) w).trans (Mod.alloc _ _ _) (fun _ _ e => e) (fun _ _ e => e)
  have ho1 : W1.ownsRow 0 3 1 (.slice (some ⟨g2, 0, none⟩) (n + 1) G) (n + 1) (ROW.toList.take ((n + 1) * 1)) := by
    have hle : (n + 1) * 1 ≤ G * 1 := Nat.mul_le_mul_right _ hGn
    refine ⟨by rw [List.length_take, Array.length_toList]; omega, .inr ⟨g2, G, ROW, rfl, Nat.zero_le _, ?_, hGn, hGm, hRl, rfl⟩⟩
    rw [← hW1, ← hg2]
    have h9 := Blk.new w.drew 3 ROW.toList
    unfold Blk at h9
    simpa using h9
  have hzl : (ROW.toList.take ((n + 1) * 1)).length = (n + 1) * 1 := ho1.1
  have hzt : (ROW.toList.take ((n + 1) * 1)).take (i * 1) = xs.take (i * 1) := by rw [List.take_take, Nat.min_eq_left (Nat.mul_le_mul_right _ (by omega)), hRt]
  obtain ⟨zs, hzs⟩ : ∃ zs, ROW.toList.take ((n + 1) * 1) = zs := ⟨_, rfl⟩
  rw [hzs] at ho1 hzl hzt
  have hgr := put_grow xs x zs i n 1 hi hxs hxlen hzl hzt
  have HGR := Lib.hid hgr
  have htkG := fun wx => run_dropS (P := Tryz.prog) wx 40 3 iA 1 Tryz.underlying40 hiA hsA (some ⟨g2, 0, none⟩) (n + 1) G i (by omega)
  have htkH := fun wx => run_dropS (P := Tryz.prog) wx 40 3 iA 1 Tryz.underlying40 hiA hsA (some ⟨g2, 0, none⟩) (n + 1) G (i + 1) (by omega)
  have hA2 : dropA (some ⟨g2, 0, none⟩) G i 1 = some ⟨g2, i * 1, none⟩ := by unfold dropA; rw [if_neg (by omega)]; show some (Addr.add _ _) = _; rw [Addr.add_lit, Nat.zero_add]
  have hA3 : dropA (some ⟨g2, 0, none⟩) G (i + 1) 1 = some ⟨g2, (i + 1) * 1, none⟩ := by unfold dropA; rw [if_neg (by omega)]; show some (Addr.add _ _) = _; rw [Addr.add_lit, Nat.zero_add]
  rw [hA2] at htkG
  rw [hA3, show n + 1 - (i + 1) = n - i by omega] at htkH
  have hcA : ∀ ty, _ := fun ty => run_copy_own (P := Tryz.prog) W1 40 40 ty 3 iA 1 Tryz.underlying40 hiA hsA 0 g2 (n + 1) G zs ho1 i (i * 1) (n + 1 - i) (G - i) rfl (some ⟨gv, 0, none⟩) 1 1 x (hx.keep hm1 (fun _ _ e => e)) hx1 1 (by show min _ _ = _; omega) (by omega)
  have hxt : x.take (1 * 1) = x := List.take_of_length_le (by omega)
  simp only [hxt, Nat.one_mul] at hcA
  obtain ⟨W2, hW2⟩ : ∃ W2, W1.setCells g2 (i * 1) x = W2 := ⟨_, rfl⟩
  rw [hW2] at hcA
  have hm2 : Mod (fun k => k = g2) W1 W2 := by rw [← hW2]; exact setCells_mod _ _ _
  have hm12 : Mod (fun _ => False) w W2 := hm1.old hm2 (fun k e => by omega)
  have hrs : Rd w 1 (.slice (some ⟨g, i * 1, none⟩) (n - i) (n - i)) (n - i) (xs.drop (i * 1)) := by have := (Rd.ofOwn ho).drop (show i ≤ n by omega); rwa [hA0] at this
  have hcB : ∀ (W : World), Mod (fun _ => False) W2 W → ∀ ty, _ := fun W m ty => run_copy_own (P := Tryz.prog) W 40 40 ty 3 iA 1 Tryz.underlying40 hiA hsA 0 g2 (n + 1) G _ (Own.keep (hcA 3).2 m (fun _ _ e => e)) (i + 1) ((i + 1) * 1) (n - i) (G - (i + 1)) rfl (some ⟨g, i * 1, none⟩) (n - i) (n - i) (xs.drop (i * 1)) (hrs.keep (hm12.of2 m) (fun _ _ e => e)) (fun u hu => h1 u (List.mem_of_mem_drop hu)) (n - i) (Nat.min_self _) (by omega)
  have hdt : (xs.drop (i * 1)).take ((n - i) * 1) = xs.drop (i * 1) := List.take_of_length_le (by rw [List.length_drop, Nat.sub_mul]; omega)
  simp only [hdt] at hcB
  have HRZ := Lib.hid hrz
  have HCA := Lib.hid (fun ty => (hcA ty).1)
  have HCB := Lib.hid hcB
  have HM2 := Lib.hid hm12
  have hci : ¬ (n = i) := by omega
  rw [hq2] at htkH
  have hca1 := HCA.out
  clear hq1 hq2
  clear ho hx hxb h1 hold hrz hROW hRl hRt hW1 hm1 ho1 hzl hzt hzs hgr hA0 hA2 hA3 hcA hxt hW2 hm2 hm12 hrs hcB hdt hxs hilt hne hin hG
  simp only [Nat.mul_one] at *
  go_enter Tryz.func124, Tryz.ntmps124
  go_wp2_with (first
      | (at_builtin; refine Lib.wpList_append_run _ rfl _ _ _ _ rfl _ _ rfl rfl _ _ (HRZ.out _) ?_))
  go_region_law (refine step_copy_own rfl (.tmp 50) (.tmp 53) 40 40 rfl (.slice (some ⟨g2, i + 1, none⟩) (n - i) (G - (i + 1))) (.slice (some ⟨g, i, none⟩) (n - i) (n - i)) (by simp [Act.eval, Act.put]) (by simp [Act.eval, Act.put]) _ _ (fun ty => (HCB.out _ (Mod.drew _ _) ty).1) ?_)
  all_goals
    (try go_wp2_with fail)
    go_ret
    have h2 := (HCB.out _ (Mod.drew (fun _ => False) _) 3).2
    rw [HGR.out] at h2
    refine ⟨some ⟨g2, 0, none⟩, G, rfl, by simpa only [Nat.mul_one] using h2, ?_, fun k hk => .inr (by have h9 : g2 = k := Option.some.inj hk; omega)⟩
    exact ((HM2.out.of2 (Mod.drew (fun _ => False) _)).old (setCells_mod _ _ _) (fun k e => by omega)).mono (fun _ _ e => e.elim)
set_option maxHeartbeats 8000000 in
theorem insI_any (w : World) (a : Option Addr) (n c i : Nat) (xs : List Value) (h1 : ∀ u ∈ xs, u.oneCell' = true) (ho : w.ownsRow 0 3 1 (.slice a n c) n xs) (hn : n ≤ 100000) (gv : Nat) (x : List Value) (hx : Rd w 1 (.slice (some ⟨gv, 0, none⟩) 1 1) 1 x) (hxb : Blk w gv 3 x) (hx1 : ∀ u ∈ x, u.oneCell' = true) (hne : (Value.slice a n c).ownBlock ≠ some gv) (hi : i ≤ n) :
    Calls Tryz.prog 124 #[.slice a n c, .int .i64 (i : Int), .slice (some ⟨gv, 0, none⟩) 1 1] w fun e w' => InsIP a n c i xs x w e w' := by
  by_cases h2 : i = n
  · exact insI_end w a n c i xs h1 ho hn gv x hx hxb hx1 hne h2
  · by_cases h3 : n + 1 ≤ c
    · exact insI_room w a n c i xs h1 ho hn gv x hx hxb hx1 hne (by omega) h3
    · exact insI_grow w a n c i xs h1 ho hn gv x hx hxb hx1 hne (by omega) h3
end Go.Proofs.YtjjedebjbgpimaaGreat
namespace Go.Proofs.YtjjedebjbgpimaaGreat
open Go.RowKit Mile
set_option maxRecDepth 100000
set_option maxHeartbeats 8000000 in
theorem delI_any (w : World) (a : Option Addr) (n c i : Nat) (xs : List Value) (h1c : ∀ u ∈ xs, u.oneCell' = true) (ho : w.ownsRow 0 3 1 (.slice a n c) n xs) (hi : i < n) (hn : n ≤ 100000) (m : Nat) (hm : n = m + 1) :
    Calls Tryz.prog 137 #[.slice a n c, .int .i64 (i : Int), .int .i64 ((i : Int) + 1)] w fun e w' => e = .returned (.slice a m c) ∧ w'.ownsRow 0 3 1 (.slice a m c) m (xs.take (i * 1) ++ xs.drop ((i + 1) * 1)) ∧ Mod (fun k => (Value.slice a n c).ownBlock = some k) w w' := by
  obtain ⟨iA, hiA, hzA, hsA, hbA⟩ := info_parts Nt.infoI
  replace hm : m + 1 ≤ n ∧ n ≤ m + 1 := ⟨Nat.le_of_eq hm.symm, Nat.le_of_eq hm⟩
  obtain ⟨g, c2, hab, hlo, hlt⟩ := own_block ho (by omega)
  cases hab
  have hcap : n ≤ c := by obtain ⟨_, h | ⟨g2, cap, cur, he, _, _, hc1, _⟩⟩ := ho; exact absurd h.1 (by simp); cases he; exact hc1
  have hxs : xs.length = n * 1 := ho.1
  have z0 : ((i : Int) == (i : Int) + 1) = false := by rw [beq_eq_false_iff_ne]; omega
  have hrd0 := ((Rd.ofOwn ho).drop (show i + 1 ≤ n by omega)).keep (Mod.drew (fun _ => False) w) (fun _ _ e => e)
  rw [show n - (i + 1) = m - i by omega] at hrd0
  have ho0 := Own.keep (own_narrowS ho (m := i) (by omega)) (Mod.drew (fun _ => False) w) (fun _ _ e => e)
  obtain ⟨w2, hrun, hA⟩ := run_append_here (P := Tryz.prog) w.drew 40 3 3 iA (.int .i64 0) 1 8 Tryz.underlying40 hiA hzA hsA hbA rfl (by decide) g i c _ ho0 _ (m - i) _ hrd0 (fun u hu => h1c u (List.mem_of_mem_drop hu)) (by omega) (by omega)
  rw [show i + (m - i) = m by omega] at hrun hA
  obtain ⟨v3, hv3⟩ := run_cut3S (P := Tryz.prog) w 40 3 iA Tryz.underlying40 hiA (some ⟨g, 0, none⟩) n c i (i + 1) (by omega) (by omega) hcap
  rw [show ((i + 1 : Nat) : Int) = (i : Int) + 1 by omega] at hv3
  have htk := fun wx => run_takeS (P := Tryz.prog) wx 40 3 iA Tryz.underlying40 hiA (some ⟨g, 0, none⟩) n c i (by omega)
  have hdr := fun wx => run_dropS (P := Tryz.prog) wx 40 3 iA 1 Tryz.underlying40 hiA hsA (some ⟨g, 0, none⟩) n c (i + 1) (by omega)
  rw [show n - (i + 1) = m - i by omega, show ((i + 1 : Nat) : Int) = (i : Int) + 1 by omega] at hdr
  have hc2 := fun wx => run_cut2S (P := Tryz.prog) wx 40 3 iA 1 Tryz.underlying40 hiA hsA (some ⟨g, 0, none⟩) m c m n (by omega) hcap
  have hnm : n - m = 1 := by omega
  have hdA : dropA (some ⟨g, 0, none⟩) c m 1 = some ⟨g, m * 1, none⟩ := by unfold dropA; rw [if_neg (by omega)]; show some (Addr.add _ _) = _; rw [Addr.add_lit, Nat.zero_add]
  rw [hnm, hdA] at hc2
  have hzv : ∀ w : World, (zeroValue 3).run Tryz.prog w = .ok (.int .i64 0) w := fun w => by kernel_rfl
  obtain ⟨hcl, hcl2⟩ := run_clear_one (P := Tryz.prog) w2 40 3 (.int .i64 0) [.int .i64 0] 1 Tryz.underlying40 hzv (by kernel_rfl) rfl (by intro u hu; simp at hu; rw [hu]; rfl) 0 g m c (c - m) _ hA.own (by omega)
  have HRUN := Lib.hid hrun
  have HA := Lib.hid hA
  have HCL2 := Lib.hid hcl2
  simp only [Nat.mul_one] at hcl hc2 HCL2
  clear hrun hA hrd0 ho0 ho hzv h1c hdA hxs hnm hcl2
  go_enter Tryz.func137, Tryz.ntmps137
  go_wp2_with fail
  go_region_law (refine step_append_here rfl (.tmp 22) (.tmp 25) 40 rfl (.slice (some ⟨g, 0, none⟩) i c) (.slice (dropA (some ⟨g, 0, none⟩) c (i + 1) 1) (m - i) (c - (i + 1))) (by simp [Act.eval, Act.put]) (by simp [Act.eval, Act.put]) _ _ HRUN.out ?_)
  all_goals
    go_wp2_with fail
    go_ret
    refine ⟨rfl, by simpa only [Nat.mul_one] using HCL2.out, ?_⟩
    exact ((Mod.drew (fun _ => False) w).trans (HA.out.mod.trans (setCells_mod _ _ _) (H := fun k => k = g) (fun k _ e => (Option.some.inj e).symm) (fun _ _ e => e)) (H := fun k => k = g) (fun _ _ e => e.elim) (fun _ _ e => e)).mono (fun k _ e => by rw [e]; rfl)
end Go.Proofs.YtjjedebjbgpimaaGreat
namespace Mile
open Go Go.RowKit
theorem riseI_at {R : List Int} (h : RiseI R) {i j : Nat} (hj : j < R.length) (hij : i < j) : R[i]'(by omega) < R[j] := List.pairwise_iff_getElem.1 h i j (by omega) hj hij
theorem posI_of {R : List Int} {x : Int} {i : Nat} (hi : i ≤ R.length) (h1 : ∀ t (ht : t < R.length), t < i → R[t] < x) (h2 : ∀ t (ht : t < R.length), i ≤ t → x ≤ R[t]) : posI R x = i := by
  unfold posI ltI
  have e : R = R.take i ++ R.drop i := (List.take_append_drop i R).symm
  rw [e, List.filter_append, List.length_append]
  have e1 : (R.take i).filter (fun b => decide (b < x)) = R.take i := List.filter_eq_self.2 fun b hb => by
    obtain ⟨t, ht, rfl⟩ := List.getElem_of_mem hb
    rw [List.length_take] at ht
    rw [List.getElem_take]
    simpa using h1 t (by omega) (by omega)
  have e2 : (R.drop i).filter (fun b => decide (b < x)) = [] := List.filter_eq_nil_iff.2 fun b hb => by
    obtain ⟨t, ht, rfl⟩ := List.getElem_of_mem hb
    rw [List.length_drop] at ht
    rw [List.getElem_drop]
    have := h2 (i + t) (by omega) (by omega)
    simp; omega
  rw [e1, e2, List.length_take]
  simp; omega
end Mile
namespace Go.Proofs.YtjjedebjbgpimaaGreat
open Go.RowKit Mile
set_option maxRecDepth 100000
theorem nt_less (x y : Int) (w : World) : Calls Tryz.prog 139 #[.int .i64 x, .int .i64 y] w fun e w' => e = .returned (.bool (decide (x < y))) ∧ w = w' := by
  go_enter Tryz.func139, Tryz.ntmps139
  go_wp2_with (go_at_call 125; refine (nt_isNaN _ _).mono ?_; rintro e w' ⟨rfl, rfl⟩)
  go_ret
  exact ⟨rfl, rfl⟩
theorem nt_isNaN2 (x : Int) (w : World) : Calls Tryz.prog 140 #[.int .i64 x] w fun e w' => e = .returned (.bool false) ∧ w = w' := by
  go_enter Tryz.func140, Tryz.ntmps140
  go_wp2_with fail
  go_ret
  exact ⟨by simp, rfl⟩
set_option maxHeartbeats 4000000 in
theorem nt_searchI (w : World) (a : Option Addr) (n c : Nat) (R : List Int) (hn : R.length = n) (hr : Rd w 1 (.slice a n c) n (R.map (Value.int .i64))) (hs : RiseI R) (hb : n ≤ 100000) (x : Int) :
    Calls Tryz.prog 123 #[.slice a n c, .int .i64 x] w fun e w' => (∃ b, e = .returned (.tuple #[.int .i64 (posI R x : Int), .bool b])) ∧ Mod (fun _ => False) w w' := by
  obtain ⟨iI, hiI, hzI, hsI, hbI⟩ := info_parts Nt.infoI
  have HN := Lib.hid hn
  have HS := Lib.hid hs
  obtain ⟨ps, hps⟩ : ∃ r, posI R x = r := ⟨_, rfl⟩
  rw [hps]
  have HPS := Lib.hid hps
  clear hn hs hps
  go_enter Tryz.func123, Tryz.ntmps123
  go_wp2_with fail
  go_loopw [7, 8, 9] (fun vi vj _ wr => ∃ i j : Nat, i ≤ j ∧ j ≤ n ∧ vi = .int .i64 i ∧ vj = .int .i64 j ∧ Mod (fun _ => False) w wr ∧ (∀ t (ht : t < R.length), t < i → R[t] < x) ∧ (∀ t (ht : t < R.length), j ≤ t → x ≤ R[t])) (fun vi vj _ _ => (intOf vj - intOf vi).toNat)
  case atStart => exact ⟨0, n, by omega, Nat.le_refl _, rfl, rfl, Mod.refl _ _, fun t _ h => by omega, fun t ht h => by rw [HN.out] at ht; omega⟩
  case round =>
    obtain ⟨i, j, hij, hjn, rfl, rfl, hM, hlo, hhi⟩ := hrel
    have HLO := Lib.hid hlo
    have HHI := Lib.hid hhi
    clear hlo hhi
    by_cases hlt : i < j
    · obtain ⟨h, hh⟩ : ∃ h, (i + j) / 2 = h := ⟨_, rfl⟩
      have hh1 : i ≤ h := by omega
      have hh2 : h < j := by omega
      have hhi : ((i : Int) + (j : Int)) / 2 = (h : Int) := by omega
      have hhl : h < R.length := by rw [HN.out]; omega
      obtain ⟨b, o, hpl, e0⟩ := rd1 (hr.keepA hM (fun _ _ e => e.elim)) h hhl
      have hix := fun wx => run_indexS (P := Tryz.prog) wx 40 3 iI 1 Tryz.underlying40 hiI hsI a n c h (by omega) (hr.some_ (by omega))
      rw [hpl] at hix
      obtain ⟨y1, hy1⟩ : ∃ Y, R[h] = Y := ⟨_, rfl⟩
      rw [hy1] at e0
      have HY := Lib.hid hy1
      have HM := Lib.hid hM
      clear hy1 hpl hh hM
      go_wp2_with fail
      refine (nt_less y1 x _).mono ?_
      rintro e w1 ⟨rfl, rfl⟩
      clear e0 hix
      by_cases hc : y1 < x
      · have hcm : decide (y1 < x) = true := by simpa using hc
        rw [hcm]
        have HC := Lib.hid hc
        clear hcm hc
        go_wp2_with fail
        go_roundw
        case rel =>
          refine ⟨h + 1, j, by omega, hjn, by go_num, rfl, HM.out, fun t ht htj => ?_, HHI.out⟩
          by_cases e : t = h
          · subst e; rw [HY.out]; exact HC.out
          · have := riseI_at HS.out hhl (show t < h by omega)
            rw [HY.out] at this
            have := HC.out; omega
        case measure => simp [intOf]; omega
      · have hcm : decide (y1 < x) = false := by simpa using hc
        rw [hcm]
        have HC := Lib.hid hc
        clear hcm hc
        go_wp2_with fail
        go_roundw
        case rel =>
          refine ⟨i, h, hh1, by omega, rfl, rfl, HM.out, HLO.out, fun t ht htj => ?_⟩
          by_cases e : t = h
          · subst e; rw [HY.out]; have := HC.out; omega
          · have := riseI_at HS.out ht (show h < t by omega)
            rw [HY.out] at this
            have := HC.out; omega
        case measure => simp [intOf]; omega
    · obtain rfl : i = j := by omega
      have hpi : ps = i := by rw [← HPS.out]; exact posI_of (by rw [HN.out]; exact hjn) HLO.out HHI.out
      subst hpi
      by_cases hin : ps < n
      · have hil : ps < R.length := by rw [HN.out]; exact hin
        obtain ⟨b, o, hpl, e0⟩ := rd1 (hr.keepA hM (fun _ _ e => e.elim)) ps hil
        have hix := fun wx => run_indexS (P := Tryz.prog) wx 40 3 iI 1 Tryz.underlying40 hiI hsI a n c ps hin (hr.some_ (by omega))
        rw [hpl] at hix
        obtain ⟨y1, hy1⟩ : ∃ Y, R[ps] = Y := ⟨_, rfl⟩
        rw [hy1] at e0
        have HM := Lib.hid hM
        clear hy1 hpl hM
        have z0 : decide ((ps : Int) < (n : Int)) = true := by simp; omega
        by_cases hq : y1 = x
        · have z1 : (y1 == x) = true := by simpa using hq
          clear hq
          go_wp2_with fail
          go_ret2
          exact ⟨⟨_, rfl⟩, HM.out⟩
        · have z1 : (y1 == x) = false := by simpa using hq
          clear hq
          go_wp2_with (go_at_call 140; refine (nt_isNaN2 _ _).mono ?_; rintro e w' ⟨rfl, rfl⟩)
          go_ret2
          exact ⟨⟨_, rfl⟩, HM.out⟩
      · have HM := Lib.hid hM
        have z0 : decide ((ps : Int) < (n : Int)) = false := by simp; omega
        clear hM
        go_wp2_with fail
        go_ret2
        exact ⟨⟨_, rfl⟩, HM.out⟩
theorem int_oneN (R : List Int) : ∀ u ∈ R.map (Value.int .i64), u.oneCell' = true := by
  intro u hu; obtain ⟨_, _, rfl⟩ := List.mem_map.1 hu; rfl
def RowIP (a : Option Addr) (n c : Nat) (R' : List Int) (w : World) (e : Ending) (w' : World) : Prop :=
  ∃ a' c', e = .returned (.slice a' R'.length c') ∧ w'.ownsRow 0 3 1 (.slice a' R'.length c') R'.length (R'.map (Value.int .i64)) ∧ Mod (fun k => (Value.slice a n c).ownBlock = some k) w w' ∧ ∀ k, (Value.slice a' R'.length c').ownBlock = some k → (Value.slice a n c).ownBlock = some k ∨ w.heap.size ≤ k
theorem newI_len {R : List Int} (h : RiseI R) {x : Int} (hm : x ∉ R) : (newI R x).length = R.length + 1 := by
  rw [← newI_insert h hm, List.length_append, List.length_cons, List.length_take, List.length_drop]
  have : posI R x ≤ R.length := List.length_filter_le _ _
  omega
theorem nt_with (w : World) (a : Option Addr) (n c : Nat) (R : List Int) (hn : R.length = n) (ho : w.ownsRow 0 3 1 (.slice a n c) n (R.map (Value.int .i64))) (hs : RiseI R) (hb : n ≤ 100000) (x : Int) (hx : x ∉ R) :
    Calls Tryz.prog 95 #[.slice a n c, .int .i64 x] w fun e w' => RowIP a n c (newI R x) w e w' := by
  have HSE := Lib.hid (nt_searchI w a n c R hn (Rd.ofOwn ho) hs hb x)
  have HO := Lib.hid ho
  have HS := Lib.hid hs
  have HX := Lib.hid hx
  have hpos : posI R x ≤ n := by rw [← hn]; exact List.length_filter_le _ _
  have HN := Lib.hid hn
  clear hn ho hs hx
  unfold RowIP
  rw [newI_len HS.out HX.out, HN.out]
  obtain ⟨ps, hps⟩ : ∃ r, posI R x = r := ⟨_, rfl⟩
  rw [hps] at HSE hpos
  have HPS := Lib.hid hps
  clear hps
  go_enter Tryz.func95, Tryz.ntmps95
  go_wp2_with fail
  refine HSE.out.mono ?_
  rintro e w1 ⟨⟨b, rfl⟩, hm⟩
  have HM := Lib.hid hm
  clear hm HSE
  go_wp2_with fail
  have hlo : ∀ k, (Value.slice a n c).ownBlock = some k → k < w1.heap.size := fun k hk => Nat.lt_of_lt_of_le (Own.lt HO.out hk) HM.out.size
  have hal : Mod (fun _ => False) w1 (w1.alloc (.cells #[.int .i64 x] 3)) := Mod.alloc _ _ _
  refine (insI_any (w1.alloc (.cells #[.int .i64 x] 3)) a n c ps (R.map (Value.int .i64)) (int_oneN R) (Own.keep (Own.keep HO.out HM.out (fun _ _ e => e)) hal (fun _ _ e => e)) hb w1.heap.size [.int .i64 x] (Rd.lit 3 [.int .i64 x] (0, 0) _ 1 rfl rfl (by decide)) (Blk.new w1 3 [.int .i64 x]) (by intro u hu; simp at hu; rw [hu]; rfl) (fun e => by have := hlo _ e; omega) hpos).mono ?_
  rintro e w2 ⟨a', c', rfl, ho2, hm2, hn2⟩
  have hres : (R.map (Value.int .i64)).take (ps * 1) ++ [.int .i64 x] ++ (R.map (Value.int .i64)).drop (ps * 1) = (newI R x).map (Value.int .i64) := by
    rw [← newI_insert HS.out HX.out, HPS.out, Nat.mul_one, List.map_append, List.map_cons, List.map_take, List.map_drop, List.append_assoc]; rfl
  rw [hres] at ho2
  have HO2 := Lib.hid ho2
  have HM2 := Lib.hid hm2
  have HN2 := Lib.hid hn2
  have HLO := Lib.hid hlo
  clear hres ho2 hm2 hn2 hal hlo
  go_wp2_with fail
  go_ret
  refine ⟨a', c', rfl, HO2.out, (HM.out.trans (Mod.alloc (fun _ => False) w1 _) (H := fun _ => False) (fun _ _ e => e) (fun _ _ e => e)).trans HM2.out (fun _ _ e => e.elim) (fun _ _ e => e), fun k hk => (HN2.out k hk).imp id (fun e => ?_)⟩
  have := HM.out.size
  simp at e; omega
theorem nt_without (w : World) (a : Option Addr) (n c : Nat) (R : List Int) (hn : R.length = n) (ho : w.ownsRow 0 3 1 (.slice a n c) n (R.map (Value.int .i64))) (hs : RiseI R) (hb : n ≤ 100000) (x : Int) (hx : x ∈ R) :
    Calls Tryz.prog 118 #[.slice a n c, .int .i64 x] w fun e w' => RowIP a n c (delI R x) w e w' := by
  have HSE := Lib.hid (nt_searchI w a n c R hn (Rd.ofOwn ho) hs hb x)
  obtain ⟨hp1, hp2⟩ := posI_at hs hx
  have hcut := delI_cut hs hx
  have hl : (delI R x).length = n - 1 := by
    rw [← hcut, List.length_append, List.length_take, List.length_drop]; omega
  unfold RowIP
  rw [hl]
  obtain ⟨ps, hps⟩ : ∃ r, posI R x = r := ⟨_, rfl⟩
  rw [hps] at HSE hp1 hcut
  obtain ⟨m, hm⟩ : ∃ m, n - 1 = m := ⟨_, rfl⟩
  rw [hm]
  have hpn : ps < n := by omega
  have hmn : m + 1 ≤ n ∧ n ≤ m + 1 := by omega
  have HO := Lib.hid ho
  have HC := Lib.hid hcut
  have hw1 : IntKind.i64.wrap ((ps : Int) + 1) = (ps : Int) + 1 := IntWalk.i64_in _ (by omega)
  clear hn ho hs hx hp1 hp2 hcut hl hps hm
  go_enter Tryz.func118, Tryz.ntmps118
  go_wp2_with fail
  refine HSE.out.mono ?_
  rintro e w1 ⟨⟨b, rfl⟩, hm⟩
  have HM := Lib.hid hm
  clear hm HSE
  go_wp2_with fail
  refine (delI_any w1 a n c ps (R.map (Value.int .i64)) (int_oneN R) (Own.keep HO.out HM.out (fun _ _ e => e)) hpn hb m (by omega)).mono ?_
  rintro e w2 ⟨rfl, ho2, hm2⟩
  have hres : (R.map (Value.int .i64)).take (ps * 1) ++ (R.map (Value.int .i64)).drop ((ps + 1) * 1) = (delI R x).map (Value.int .i64) := by
    rw [← HC.out, Nat.mul_one, Nat.mul_one, List.map_append, List.map_take, List.map_drop]
  rw [hres] at ho2
  have HO2 := Lib.hid ho2
  have HM2 := Lib.hid hm2
  clear hres ho2 hm2
  go_wp2_with fail
  go_ret
  exact ⟨a, c, rfl, HO2.out, HM.out.trans HM2.out (fun _ _ e => e.elim) (fun _ _ e => e), fun k hk => .inl (by rw [← hk]; exact own_slice a n c m c)⟩
end Go.Proofs.YtjjedebjbgpimaaGreat
namespace Go.Proofs.YtjjedebjbgpimaaGreat
open Go.RowKit Mile
set_option maxRecDepth 100000
def InsAP (a : Option Addr) (n c i : Nat) (xs x : List Value) (w : World) (e : Ending) (w' : World) : Prop :=
  ∃ a' c', e = .returned (.slice a' (n + 1) c') ∧ w'.ownsRow 0 50 4 (.slice a' (n + 1) c') (n + 1) (xs.take (i * 4) ++ x ++ xs.drop (i * 4)) ∧ Mod (fun k => (Value.slice a n c).ownBlock = some k) w w' ∧ ∀ k, (Value.slice a' (n + 1) c').ownBlock = some k → (Value.slice a n c).ownBlock = some k ∨ w.heap.size ≤ k
set_option maxHeartbeats 8000000 in
theorem insA_end (w : World) (a : Option Addr) (n c i : Nat) (xs : List Value) (h1 : ∀ u ∈ xs, u.oneCell' = true) (ho : w.ownsRow 0 50 4 (.slice a n c) n xs) (hn : n ≤ 100000) (gv : Nat) (x : List Value) (hx : Rd w 4 (.slice (some ⟨gv, 0, none⟩) 1 1) 1 x) (hxb : Blk w gv 50 x) (hx1 : ∀ u ∈ x, u.oneCell' = true) (hne : (Value.slice a n c).ownBlock ≠ some gv) (hi : i = n) :
    Calls Tryz.prog 94 #[.slice a n c, .int .i64 (i : Int), .slice (some ⟨gv, 0, none⟩) 1 1] w fun e w' => InsAP a n c i xs x w e w' := by
  obtain ⟨iA, hiA, hzA, hsA, hbA⟩ := info_parts Nt.infoA
  have hdr := fun wx => run_dropS (P := Tryz.prog) wx 34 50 iA 4 Tryz.underlying34 hiA hsA a n c i (by omega)
  have z0 : ((1 : Int) == 0) = false := by decide
  have z1 : ((i : Int) == (n : Int)) = true := by simp; omega
  have hmx1 : n + 1 ≤ maxLen := by unfold maxLen; omega
  have HO := Lib.hid ho
  have HX := Lib.hid hx
  have hxl : xs.length = i * 4 := by rw [ho.1, hi]
  have HXL := Lib.hid hxl
  clear ho hx hxb hne h1 hxl hi
  go_enter Tryz.func94, Tryz.ntmps94
  go_wp2_with (first | (at_builtin; refine wpList_append_any rfl (.tmp 23) (.tmp 24) 34 rfl 50 iA (.agg #[.int .i64 0, .int .i64 0, .int .i64 0, .int .i64 0]) 4 32 Tryz.underlying34 hiA hzA hsA hbA rfl (by decide) _ n xs rfl HO.out _ 1 x rfl HX.out hx1 hmx1 (by omega) ?_; intro v7 w7 hap; obtain ⟨a7, c7, rfl⟩ := hap.form; have HAP := Lib.hid hap; clear hap))
  (try go_wp2_with fail)
  go_ret
  refine ⟨a7, c7, rfl, ?_, HAP.out.mod, HAP.out.row⟩
  have h2 := HAP.out.own
  rw [show xs.take (i * 4) = xs from List.take_of_length_le (Nat.le_of_eq HXL.out), show xs.drop (i * 4) = [] from List.drop_of_length_le (Nat.le_of_eq HXL.out), List.append_nil]
  exact h2
set_option maxHeartbeats 8000000 in
theorem insA_room (w : World) (a : Option Addr) (n c i : Nat) (xs : List Value) (h1 : ∀ u ∈ xs, u.oneCell' = true) (ho : w.ownsRow 0 50 4 (.slice a n c) n xs) (hn : n ≤ 100000) (gv : Nat) (x : List Value) (hx : Rd w 4 (.slice (some ⟨gv, 0, none⟩) 1 1) 1 x) (hxb : Blk w gv 50 x) (hx1 : ∀ u ∈ x, u.oneCell' = true) (hne : (Value.slice a n c).ownBlock ≠ some gv) (hi : i < n) (hc : n + 1 ≤ c) :
    Calls Tryz.prog 94 #[.slice a n c, .int .i64 (i : Int), .slice (some ⟨gv, 0, none⟩) 1 1] w fun e w' => InsAP a n c i xs x w e w' := by
  obtain ⟨iA, hiA, hzA, hsA, hbA⟩ := info_parts Nt.infoA
  obtain ⟨g, c2, hab, hlo, hlt⟩ := own_block ho (by omega)
  cases hab
  have hgv : gv ≠ g := fun e => hne (by rw [e]; rfl)
  have hn63 : c ≤ maxLen := by obtain ⟨_, h | ⟨g2, cap, cur, he, _, _, hc1, hc2, _⟩⟩ := ho; exact absurd h.1 (by simp); cases he; exact hc2
  have hc63 : c ≤ 9223372036854775807 := by unfold maxLen at hn63; omega
  have hdr := fun wx => run_dropS (P := Tryz.prog) wx 34 50 iA 4 Tryz.underlying34 hiA hsA (some ⟨g, 0, none⟩) n c i (by omega)
  have htk := fun wx => run_takeS (P := Tryz.prog) wx 34 50 iA Tryz.underlying34 hiA (some ⟨g, 0, none⟩) n c (n + 1) hc
  have hdr1 := fun wx => run_dropS (P := Tryz.prog) wx 34 50 iA 4 Tryz.underlying34 hiA hsA (some ⟨g, 0, none⟩) (n + 1) c (i + 1) (by omega)
  have hdr0 := fun wx => run_dropS (P := Tryz.prog) wx 34 50 iA 4 Tryz.underlying34 hiA hsA (some ⟨g, 0, none⟩) (n + 1) c i (by omega)
  have hA1 : dropA (some ⟨g, 0, none⟩) c (i + 1) 4 = some ⟨g, (i + 1) * 4, none⟩ := by unfold dropA; rw [if_neg (by omega)]; show some (Addr.add _ _) = _; rw [Addr.add_lit, Nat.zero_add]
  have hA0 : dropA (some ⟨g, 0, none⟩) c i 4 = some ⟨g, i * 4, none⟩ := by unfold dropA; rw [if_neg (by omega)]; show some (Addr.add _ _) = _; rw [Addr.add_lit, Nat.zero_add]
  rw [hA1, show n + 1 - (i + 1) = n - i by omega] at hdr1
  rw [hA0] at hdr0 hdr
  have z0 : ((1 : Int) == 0) = false := by decide
  have z1 : ((i : Int) == (n : Int)) = false := by rw [beq_eq_false_iff_ne]; omega
  have hw1 : IntKind.i64.wrap ((n : Int) + 1) = (n : Int) + 1 := IntWalk.i64_in _ (by omega)
  have hw2 : IntKind.i64.wrap ((i : Int) + 1) = (i : Int) + 1 := IntWalk.i64_in _ (by omega)
  have hq1 : ((n + 1 : Nat) : Int) = (n : Int) + 1 := by omega
  have hq2 : ((i + 1 : Nat) : Int) = (i : Int) + 1 := by omega
  have z2n : decide ((c : Int) < (n : Int) + 1) = false := by simp; omega
  have hshv : ∀ W, Mod (fun _ => False) w W → W.shape? gv = some (50, x.length) := fun W m => by have := hxb.keep m (fun e => e); unfold World.shape?; unfold Blk at this; rw [this]; simp
  have hxlen : x.length = 4 := by have := hx.1; omega
  obtain ⟨zs, hoz, hzt⟩ := own_widenS ho (n := n + 1) (by omega) hc
  have hcap : ∃ cur, w.heap[g]? = some (.cells cur 50 (0, 0)) ∧ cur.size = c * 4 := by obtain ⟨_, h | ⟨g2, cap, cur, he, _, hb, hc1, hc2, hcs, _⟩⟩ := ho; exact absurd h.1 (by simp); cases he; exact ⟨cur, hb, hcs⟩
  obtain ⟨cur, hcur, hcs⟩ := hcap
  have hov : ∀ lb cb, (callFunc 121 #[.slice (some ⟨gv, 0, none⟩) 1 1, .slice (some ⟨g, (i + 1) * 4, none⟩) lb cb]).run Tryz.prog w = .ok (.value (.bool false)) w := fun lb cb => by
    rw [run_callFunc_extern Tryz.func121 (by kernel_rfl) (by kernel_rfl) (by kernel_rfl) (e := Extern.SlicesOverlaps.overlaps #[34, 34] #[4]) (by kernel_rfl),
      Lib.run_overlaps_apart w 34 4 50 Tryz.underlying34 4 (fun w => by simp [Go.sizeOf, typeInfo, hiA, hsA]) ⟨gv, 0, none⟩ ⟨g, (i + 1) * 4, none⟩ 1 1 lb cb hgv 50 50 x.length (c * 4) (hshv w (Mod.refl _ _)) (by show w.shape? g = _; unfold World.shape?; rw [hcur]; simp [hcs]) (by omega) (hxb.free 0) (by show w.frozen? ⟨gv, x.length, none⟩ = false; exact hxb.free _)]
    rfl
  have hrd := (Rd.ofOwn ho).drop (show i ≤ n by omega)
  have hrdz := (Rd.ofOwn hoz).drop (show i ≤ n + 1 by omega)
  rw [hA0] at hrdz
  have HO := Lib.hid ho
  have HOZ := Lib.hid hoz
  have HZT := Lib.hid hzt
  have HH1 := Lib.hid h1
  have HXB := Lib.hid hxb
  have HXX := Lib.hid hx
  have HRZ := Lib.hid hrdz
  have hzd : (zs.drop (i * 4)).take ((n - i) * 4) = xs.drop (i * 4) := by rw [← hzt, List.drop_take, Nat.sub_mul]
  have hsrc : ∀ W, Mod (fun _ => False) w W → Rd W 4 (.slice (some ⟨g, i * 4, none⟩) (n + 1 - i) (c - i)) (n + 1 - i) (zs.drop (i * 4)) := fun W m => HRZ.out.keep m (fun _ _ e => e)
  have hcpA : ∀ (W : World), Mod (fun _ => False) w W → ∀ ty, (Builtin.copy_ #[34, 34] ty #[.slice (some ⟨g, (i + 1) * 4, none⟩) (n - i) (c - (i + 1)), .slice (some ⟨g, i * 4, none⟩) (n + 1 - i) (c - i)]).run Tryz.prog W = .ok (goInt (n - i : Nat)) (W.setCells g ((i + 1) * 4) (xs.drop (i * 4))) ∧ (W.setCells g ((i + 1) * 4) (xs.drop (i * 4))).ownsRow 0 50 4 (.slice (some ⟨g, 0, none⟩) (n + 1) c) (n + 1) (zs.take ((i + 1) * 4) ++ xs.drop (i * 4) ++ zs.drop ((i + 1) * 4 + (n - i) * 4)) := fun W m ty => by
    have h := run_copy_take (P := Tryz.prog) W 34 34 ty 50 iA 4 Tryz.underlying34 hiA hsA 0 g (n + 1) c zs (Own.keep HOZ.out m (fun _ _ e => e)) (i + 1) ((i + 1) * 4) (n - i) (c - (i + 1)) rfl (some ⟨g, i * 4, none⟩) (n + 1 - i) (c - i) (zs.drop (i * 4)) (hsrc W m) (n - i) (by show min _ _ = _; omega) (by omega) (by rw [hzd]; exact fun u hu => HH1.out u (List.mem_of_mem_drop hu))
    rw [hzd] at h
    exact h
  have hxs : xs.length = n * 4 := ho.1
  have hzl : zs.length = (n + 1) * 4 := hoz.1
  have hsh := put_shift xs x zs i n 4 hi hxs hxlen hzl hzt
  have HSH := Lib.hid hsh
  obtain ⟨w1, hw1e⟩ : ∃ y, w.drew.setCells g ((i + 1) * 4) (xs.drop (i * 4)) = y := ⟨_, rfl⟩
  have hcA := hcpA w.drew (Mod.drew _ _)
  rw [hw1e] at hcA
  have hm1 : Mod (fun k => k = g) w w1 := by rw [← hw1e]; exact (Mod.drew (fun k => k = g) w).trans (setCells_mod _ _ _) (fun _ _ e => e) (fun _ _ e => e)
  have hxw1 : Rd w1 4 (.slice (some ⟨gv, 0, none⟩) 1 1) 1 x := hx.keep hm1 (fun k hk e => by have h9 : gv = k := Option.some.inj hk; omega)
  have hcpB := fun (dc : Nat) ty => run_copy_own (P := Tryz.prog) w1 34 34 ty 50 iA 4 Tryz.underlying34 hiA hsA 0 g (n + 1) c _ (hcA 3).2 i (i * 4) (n + 1 - i) dc rfl (some ⟨gv, 0, none⟩) 1 1 x hxw1 hx1 1 (by show min _ _ = _; omega) (by omega)
  have hxt : x.take (1 * 4) = x := List.take_of_length_le (by omega)
  simp only [hxt, Nat.one_mul] at hcpB
  have HCA := Lib.hid (fun ty => (hcA ty).1)
  have HCB := Lib.hid hcpB
  have HM1 := Lib.hid hm1
  clear ho hoz hzt h1 hxb hx hrd hrdz hsrc hzd hcpA hcA hcpB hsh hw1e hm1 hxw1 hcur hcs hshv HRZ hxs hzl hA1 hA0 hxt
  rw [hq1] at htk
  rw [hq2] at hdr1
  have hcb1 := HCB.out
  clear hq1 hq2
  go_enter Tryz.func94, Tryz.ntmps94
  go_wp2_with (simp only [hov])
  go_region_law (refine step_copy_own rfl (.tmp 73) (.tmp 76) 34 34 rfl (.slice (some ⟨g, (i + 1) * 4, none⟩) (n - i) (c - (i + 1))) (.slice (some ⟨g, i * 4, none⟩) (n + 1 - i) (c - i)) (by simp [Act.eval, Act.put]) (by simp [Act.eval, Act.put]) _ _ HCA.out ?_)
  all_goals
    have hcb2 := fun dc ty => (hcb1 dc ty).1
    clear hcb1
    go_wp2_with fail
    (try go_wp2_with fail)
    go_ret
    refine ⟨some ⟨g, 0, none⟩, c, rfl, ?_, ?_, fun k hk => .inl hk⟩
    · have h2 := (HCB.out 0 3).2
      rw [HSH.out] at h2
      exact h2
    · exact (HM1.out.trans (setCells_mod _ _ _) (H := fun k => k = g) (fun _ _ e => e) (fun _ _ e => e)).mono (fun k _ e => by rw [e]; rfl)
set_option maxHeartbeats 8000000 in
theorem insA_grow (w : World) (a : Option Addr) (n c i : Nat) (xs : List Value) (h1 : ∀ u ∈ xs, u.oneCell' = true) (ho : w.ownsRow 0 50 4 (.slice a n c) n xs) (hn : n ≤ 100000) (gv : Nat) (x : List Value) (hx : Rd w 4 (.slice (some ⟨gv, 0, none⟩) 1 1) 1 x) (hxb : Blk w gv 50 x) (hx1 : ∀ u ∈ x, u.oneCell' = true) (hne : (Value.slice a n c).ownBlock ≠ some gv) (hi : i < n) (hc : ¬ n + 1 ≤ c) :
    Calls Tryz.prog 94 #[.slice a n c, .int .i64 (i : Int), .slice (some ⟨gv, 0, none⟩) 1 1] w fun e w' => InsAP a n c i xs x w e w' := by
  obtain ⟨iA, hiA, hzA, hsA, hbA⟩ := info_parts Nt.infoA
  obtain ⟨g, c2, hab, hlo, hlt⟩ := own_block ho (by omega)
  cases hab
  obtain rfl : n = c := by obtain ⟨_, h | ⟨g2, cap, cur, he, _, _, hc1, _⟩⟩ := ho; exact absurd h.1 (by simp); cases he; omega
  have hgv : gv < w.heap.size := hxb.lt
  have hdr := fun wx => run_dropS (P := Tryz.prog) wx 34 50 iA 4 Tryz.underlying34 hiA hsA (some ⟨g, 0, none⟩) n n i (by omega)
  have htk := fun wx => run_takeS (P := Tryz.prog) wx 34 50 iA Tryz.underlying34 hiA (some ⟨g, 0, none⟩) n n i (by omega)
  have hA0 : dropA (some ⟨g, 0, none⟩) n i 4 = some ⟨g, i * 4, none⟩ := by unfold dropA; rw [if_neg (by omega)]; show some (Addr.add _ _) = _; rw [Addr.add_lit, Nat.zero_add]
  rw [hA0] at hdr
  have z0 : ((1 : Int) == 0) = false := by decide
  have z1 : ((i : Int) == (n : Int)) = false := by rw [beq_eq_false_iff_ne]; omega
  have hw1 : IntKind.i64.wrap ((n : Int) + 1) = (n : Int) + 1 := IntWalk.i64_in _ (by omega)
  have hw2 : IntKind.i64.wrap ((i : Int) + 1) = (i : Int) + 1 := IntWalk.i64_in _ (by omega)
  have hq1 : ((n + 1 : Nat) : Int) = (n : Int) + 1 := by omega
  have hq2 : ((i + 1 : Nat) : Int) = (i : Int) + 1 := by omega
  have hw4 : IntKind.i64.wrap ((n : Int) + 1 - (i : Int)) = ((n + 1 - i : Nat) : Int) := by rw [IntWalk.i64_in _ (by omega)]; omega
  have z2n : decide ((n : Int) < (n : Int) + 1) = true := by simp; omega
  have hxs : xs.length = n * 4 := ho.1
  have hxlen : x.length = 4 := by have := hx.1; omega
  have hilt : i * 4 ≤ n * 4 := Nat.mul_le_mul_right _ (by omega)
  have hold : (Builtin.firstCells iA.size i (.slice (some ⟨g, 0, none⟩) i n)).run Tryz.prog w.drew = .ok (xs.take (i * 4)).toArray w.drew := by
    rw [hsA]
    have hr := Rd.ofOwn (Own.keep ho (Mod.drew (fun _ => False) w) (fun _ _ e => e))
    obtain ⟨_, a9, c9, he9, _, _, _, hcell⟩ := hr
    cases he9
    exact run_firstCells_some w.drew 4 i ⟨g, 0, none⟩ i n (xs.take (i * 4)) (by rw [List.length_take]; omega) (fun j v hj => (hcell _ rfl).2 j v (by rw [List.getElem?_take] at hj; split at hj; exact hj; cases hj))
  have hrz : ∀ ty, (Builtin.append_ #[34, 3] ty #[.slice (some ⟨g, 0, none⟩) i n, .int .i64 ((n + 1 - i : Nat) : Int)]).run Tryz.prog w = _ := fun ty => Lib.run_append_grow_zeros w 34 3 ty 50 iA (.agg #[.int .i64 0, .int .i64 0, .int .i64 0, .int .i64 0]) .i64 .i64 Tryz.underlying34 Tryz.underlying3 hiA hzA (some ⟨g, 0, none⟩) i n (xs.take (i * 4)) hold (n + 1 - i) (by omega) (by omega) (by omega) (by omega) (by rw [hbA]; omega) (by rw [hbA, show i + (n + 1 - i) = n + 1 by omega]; exact growslice_fits (by omega) (by omega))
  have hin : i + (n + 1 - i) = n + 1 := by omega
  rw [hin] at hrz
  obtain ⟨G, hG⟩ : ∃ G, grownCap w (n + 1) n 50 = G := ⟨_, rfl⟩
  have hGn : n + 1 ≤ G := by rw [← hG]; exact grownCap_ge w _ _ _
  have hGm : G ≤ maxLen := by rw [← hG]; exact grownCap_le_maxLen w (n + 1) n 50 (by unfold maxLen; omega)
  rw [hG] at hrz
  obtain ⟨ROW, hROW⟩ : ∃ ROW : Array Value, (xs.take (i * 4)).toArray ++ Builtin.zeroCells (Value.cells (.agg #[.int .i64 0, .int .i64 0, .int .i64 0, .int .i64 0])) (n + 1 - i) ++ Builtin.zeroCells (Value.cells (.agg #[.int .i64 0, .int .i64 0, .int .i64 0, .int .i64 0])) (G - (n + 1)) = ROW := ⟨_, rfl⟩
  rw [hROW] at hrz
  have hRl : ROW.size = G * 4 := by rw [← hROW]; simp [Builtin.zeroCells, Value.cells]; omega
  have hRt : ROW.toList.take (i * 4) = xs.take (i * 4) := by rw [← hROW, Array.toList_append, Array.toList_append, List.append_assoc, List.take_left' (by simp; omega)]
  obtain ⟨g2, hg2⟩ : ∃ y, w.heap.size = y := ⟨_, rfl⟩
  obtain ⟨W1, hW1⟩ : ∃ W1, w.drew.alloc (.cells ROW 50) = W1 := ⟨_, rfl⟩
  rw [hW1, hg2] at hrz
  have hm1 : Mod (fun _ => False) w W1 := by rw [← hW1]; exact (Mod.drew (fun _ => False) w).trans (Mod.alloc _ _ _) (fun _ _ e => e) (fun _ _ e => e)
  have ho1 : W1.ownsRow 0 50 4 (.slice (some ⟨g2, 0, none⟩) (n + 1) G) (n + 1) (ROW.toList.take ((n + 1) * 4)) := by
    have hle : (n + 1) * 4 ≤ G * 4 := Nat.mul_le_mul_right _ hGn
    refine ⟨by rw [List.length_take, Array.length_toList]; omega, .inr ⟨g2, G, ROW, rfl, Nat.zero_le _, ?_, hGn, hGm, hRl, rfl⟩⟩
    rw [← hW1, ← hg2]
    have h9 := Blk.new w.drew 50 ROW.toList
    unfold Blk at h9
    simpa using h9
  have hzl : (ROW.toList.take ((n + 1) * 4)).length = (n + 1) * 4 := ho1.1
  have hzt : (ROW.toList.take ((n + 1) * 4)).take (i * 4) = xs.take (i * 4) := by rw [List.take_take, Nat.min_eq_left (Nat.mul_le_mul_right _ (by omega)), hRt]
  obtain ⟨zs, hzs⟩ : ∃ zs, ROW.toList.take ((n + 1) * 4) = zs := ⟨_, rfl⟩
  rw [hzs] at ho1 hzl hzt
  have hgr := put_grow xs x zs i n 4 hi hxs hxlen hzl hzt
  have HGR := Lib.hid hgr
  have htkG := fun wx => run_dropS (P := Tryz.prog) wx 34 50 iA 4 Tryz.underlying34 hiA hsA (some ⟨g2, 0, none⟩) (n + 1) G i (by omega)
  have htkH := fun wx => run_dropS (P := Tryz.prog) wx 34 50 iA 4 Tryz.underlying34 hiA hsA (some ⟨g2, 0, none⟩) (n + 1) G (i + 1) (by omega)
  have hA2 : dropA (some ⟨g2, 0, none⟩) G i 4 = some ⟨g2, i * 4, none⟩ := by unfold dropA; rw [if_neg (by omega)]; show some (Addr.add _ _) = _; rw [Addr.add_lit, Nat.zero_add]
  have hA3 : dropA (some ⟨g2, 0, none⟩) G (i + 1) 4 = some ⟨g2, (i + 1) * 4, none⟩ := by unfold dropA; rw [if_neg (by omega)]; show some (Addr.add _ _) = _; rw [Addr.add_lit, Nat.zero_add]
  rw [hA2] at htkG
  rw [hA3, show n + 1 - (i + 1) = n - i by omega] at htkH
  have hcA : ∀ ty, _ := fun ty => run_copy_own (P := Tryz.prog) W1 34 34 ty 50 iA 4 Tryz.underlying34 hiA hsA 0 g2 (n + 1) G zs ho1 i (i * 4) (n + 1 - i) (G - i) rfl (some ⟨gv, 0, none⟩) 1 1 x (hx.keep hm1 (fun _ _ e => e)) hx1 1 (by show min _ _ = _; omega) (by omega)
  have hxt : x.take (1 * 4) = x := List.take_of_length_le (by omega)
  simp only [hxt, Nat.one_mul] at hcA
  obtain ⟨W2, hW2⟩ : ∃ W2, W1.setCells g2 (i * 4) x = W2 := ⟨_, rfl⟩
  rw [hW2] at hcA
  have hm2 : Mod (fun k => k = g2) W1 W2 := by rw [← hW2]; exact setCells_mod _ _ _
  have hm12 : Mod (fun _ => False) w W2 := hm1.old hm2 (fun k e => by omega)
  have hrs : Rd w 4 (.slice (some ⟨g, i * 4, none⟩) (n - i) (n - i)) (n - i) (xs.drop (i * 4)) := by have := (Rd.ofOwn ho).drop (show i ≤ n by omega); rwa [hA0] at this
  have hcB : ∀ (W : World), Mod (fun _ => False) W2 W → ∀ ty, _ := fun W m ty => run_copy_own (P := Tryz.prog) W 34 34 ty 50 iA 4 Tryz.underlying34 hiA hsA 0 g2 (n + 1) G _ (Own.keep (hcA 3).2 m (fun _ _ e => e)) (i + 1) ((i + 1) * 4) (n - i) (G - (i + 1)) rfl (some ⟨g, i * 4, none⟩) (n - i) (n - i) (xs.drop (i * 4)) (hrs.keep (hm12.of2 m) (fun _ _ e => e)) (fun u hu => h1 u (List.mem_of_mem_drop hu)) (n - i) (Nat.min_self _) (by omega)
  have hdt : (xs.drop (i * 4)).take ((n - i) * 4) = xs.drop (i * 4) := List.take_of_length_le (by rw [List.length_drop, Nat.sub_mul]; omega)
  simp only [hdt] at hcB
  have HRZ := Lib.hid hrz
  have HCA := Lib.hid (fun ty => (hcA ty).1)
  have HCB := Lib.hid hcB
  have HM2 := Lib.hid hm12
  have hci : ¬ (n = i) := by omega
  rw [hq2] at htkH
  have hca1 := HCA.out
  clear hq1 hq2
  clear ho hx hxb h1 hold hrz hROW hRl hRt hW1 hm1 ho1 hzl hzt hzs hgr hA0 hA2 hA3 hcA hxt hW2 hm2 hm12 hrs hcB hdt hxs hilt hne hin hG
  go_enter Tryz.func94, Tryz.ntmps94
  go_wp2_with (first
      | (at_builtin; refine Lib.wpList_append_run _ rfl _ _ _ _ rfl _ _ rfl rfl _ _ (HRZ.out _) ?_))
  go_region_law (refine step_copy_own rfl (.tmp 50) (.tmp 53) 34 34 rfl (.slice (some ⟨g2, (i + 1) * 4, none⟩) (n - i) (G - (i + 1))) (.slice (some ⟨g, i * 4, none⟩) (n - i) (n - i)) (by simp [Act.eval, Act.put]) (by simp [Act.eval, Act.put]) _ _ (fun ty => (HCB.out _ (Mod.drew _ _) ty).1) ?_)
  all_goals
    (try go_wp2_with fail)
    go_ret
    have h2 := (HCB.out _ (Mod.drew (fun _ => False) _) 3).2
    rw [HGR.out] at h2
    refine ⟨some ⟨g2, 0, none⟩, G, rfl, h2, ?_, fun k hk => .inr (by have h9 : g2 = k := Option.some.inj hk; omega)⟩
    exact ((HM2.out.of2 (Mod.drew (fun _ => False) _)).old (setCells_mod _ _ _) (fun k e => by omega)).mono (fun _ _ e => e.elim)
set_option maxHeartbeats 8000000 in
theorem insA_any (w : World) (a : Option Addr) (n c i : Nat) (xs : List Value) (h1 : ∀ u ∈ xs, u.oneCell' = true) (ho : w.ownsRow 0 50 4 (.slice a n c) n xs) (hn : n ≤ 100000) (gv : Nat) (x : List Value) (hx : Rd w 4 (.slice (some ⟨gv, 0, none⟩) 1 1) 1 x) (hxb : Blk w gv 50 x) (hx1 : ∀ u ∈ x, u.oneCell' = true) (hne : (Value.slice a n c).ownBlock ≠ some gv) (hi : i ≤ n) :
    Calls Tryz.prog 94 #[.slice a n c, .int .i64 (i : Int), .slice (some ⟨gv, 0, none⟩) 1 1] w fun e w' => InsAP a n c i xs x w e w' := by
  by_cases h2 : i = n
  · exact insA_end w a n c i xs h1 ho hn gv x hx hxb hx1 hne h2
  · by_cases h3 : n + 1 ≤ c
    · exact insA_room w a n c i xs h1 ho hn gv x hx hxb hx1 hne (by omega) h3
    · exact insA_grow w a n c i xs h1 ho hn gv x hx hxb hx1 hne (by omega) h3
end Go.Proofs.YtjjedebjbgpimaaGreat
namespace Go.Proofs.YtjjedebjbgpimaaGreat
open Go.RowKit Mile
set_option maxRecDepth 100000
set_option maxHeartbeats 8000000 in
theorem delA_any (w : World) (a : Option Addr) (n c i : Nat) (xs : List Value) (h1c : ∀ u ∈ xs, u.oneCell' = true) (ho : w.ownsRow 0 50 4 (.slice a n c) n xs) (hi : i < n) (hn : n ≤ 100000) (m : Nat) (hm : n = m + 1) :
    Calls Tryz.prog 119 #[.slice a n c, .int .i64 (i : Int), .int .i64 ((i : Int) + 1)] w fun e w' => e = .returned (.slice a m c) ∧ w'.ownsRow 0 50 4 (.slice a m c) m (xs.take (i * 4) ++ xs.drop ((i + 1) * 4)) ∧ Mod (fun k => (Value.slice a n c).ownBlock = some k) w w' := by
  obtain ⟨iA, hiA, hzA, hsA, hbA⟩ := info_parts Nt.infoA
  replace hm : m + 1 ≤ n ∧ n ≤ m + 1 := ⟨Nat.le_of_eq hm.symm, Nat.le_of_eq hm⟩
  obtain ⟨g, c2, hab, hlo, hlt⟩ := own_block ho (by omega)
  cases hab
  have hcap : n ≤ c := by obtain ⟨_, h | ⟨g2, cap, cur, he, _, _, hc1, _⟩⟩ := ho; exact absurd h.1 (by simp); cases he; exact hc1
  have hxs : xs.length = n * 4 := ho.1
  have z0 : ((i : Int) == (i : Int) + 1) = false := by rw [beq_eq_false_iff_ne]; omega
  have hrd0 := ((Rd.ofOwn ho).drop (show i + 1 ≤ n by omega)).keep (Mod.drew (fun _ => False) w) (fun _ _ e => e)
  rw [show n - (i + 1) = m - i by omega] at hrd0
  have ho0 := Own.keep (own_narrowS ho (m := i) (by omega)) (Mod.drew (fun _ => False) w) (fun _ _ e => e)
  obtain ⟨w2, hrun, hA⟩ := run_append_here (P := Tryz.prog) w.drew 34 3 50 iA (.agg #[.int .i64 0, .int .i64 0, .int .i64 0, .int .i64 0]) 4 32 Tryz.underlying34 hiA hzA hsA hbA rfl (by decide) g i c _ ho0 _ (m - i) _ hrd0 (fun u hu => h1c u (List.mem_of_mem_drop hu)) (by omega) (by omega)
  rw [show i + (m - i) = m by omega] at hrun hA
  obtain ⟨v3, hv3⟩ := run_cut3S (P := Tryz.prog) w 34 50 iA Tryz.underlying34 hiA (some ⟨g, 0, none⟩) n c i (i + 1) (by omega) (by omega) hcap
  rw [show ((i + 1 : Nat) : Int) = (i : Int) + 1 by omega] at hv3
  have htk := fun wx => run_takeS (P := Tryz.prog) wx 34 50 iA Tryz.underlying34 hiA (some ⟨g, 0, none⟩) n c i (by omega)
  have hdr := fun wx => run_dropS (P := Tryz.prog) wx 34 50 iA 4 Tryz.underlying34 hiA hsA (some ⟨g, 0, none⟩) n c (i + 1) (by omega)
  rw [show n - (i + 1) = m - i by omega, show ((i + 1 : Nat) : Int) = (i : Int) + 1 by omega] at hdr
  have hc2 := fun wx => run_cut2S (P := Tryz.prog) wx 34 50 iA 4 Tryz.underlying34 hiA hsA (some ⟨g, 0, none⟩) m c m n (by omega) hcap
  have hnm : n - m = 1 := by omega
  have hdA : dropA (some ⟨g, 0, none⟩) c m 4 = some ⟨g, m * 4, none⟩ := by unfold dropA; rw [if_neg (by omega)]; show some (Addr.add _ _) = _; rw [Addr.add_lit, Nat.zero_add]
  rw [hnm, hdA] at hc2
  have hzv : ∀ w : World, (zeroValue 50).run Tryz.prog w = .ok (.agg #[.int .i64 0, .int .i64 0, .int .i64 0, .int .i64 0]) w := fun w => by kernel_rfl
  obtain ⟨hcl, hcl2⟩ := run_clear_one (P := Tryz.prog) w2 34 50 (.agg #[.int .i64 0, .int .i64 0, .int .i64 0, .int .i64 0]) [.int .i64 0, .int .i64 0, .int .i64 0, .int .i64 0] 4 Tryz.underlying34 hzv (by kernel_rfl) rfl (by intro u hu; simp at hu; rcases hu with rfl | rfl | rfl | rfl <;> rfl) 0 g m c (c - m) _ hA.own (by omega)
  have HRUN := Lib.hid hrun
  have HA := Lib.hid hA
  have HCL2 := Lib.hid hcl2
  clear hrun hA hrd0 ho0 ho hzv h1c hdA hxs hnm hcl2
  go_enter Tryz.func119, Tryz.ntmps119
  go_wp2_with fail
  go_region_law (refine step_append_here rfl (.tmp 22) (.tmp 25) 34 rfl (.slice (some ⟨g, 0, none⟩) i c) (.slice (dropA (some ⟨g, 0, none⟩) c (i + 1) 4) (m - i) (c - (i + 1))) (by simp [Act.eval, Act.put]) (by simp [Act.eval, Act.put]) _ _ HRUN.out ?_)
  all_goals
    go_wp2_with fail
    go_ret
    refine ⟨rfl, by simpa only [Nat.mul_one] using HCL2.out, ?_⟩
    exact ((Mod.drew (fun _ => False) w).trans (HA.out.mod.trans (setCells_mod _ _ _) (H := fun k => k = g) (fun k _ e => (Option.some.inj e).symm) (fun _ _ e => e)) (H := fun k => k = g) (fun _ _ e => e.elim) (fun _ _ e => e)).mono (fun k _ e => by rw [e]; rfl)
end Go.Proofs.YtjjedebjbgpimaaGreat
namespace Mile
open Go Go.RowKit
def upN {α : Type} (f : Nat → α) (v : Nat) (x : α) : Nat → α := fun u => if u = v then x else f u
theorem upN_at {α : Type} (f : Nat → α) (v : Nat) (x : α) : upN f v x v = x := if_pos rfl
theorem upN_ne {α : Type} (f : Nat → α) {u v : Nat} (x : α) (h : u ≠ v) : upN f v x u = f u := if_neg h
theorem range_set {α : Type} (f : Nat → α) (n v : Nat) (x : α) : ((List.range n).map f).set v x = (List.range n).map (upN f v x) := by
  apply List.ext_getElem
  · simp
  · intro i h1 h2
    rw [List.getElem_set]
    by_cases h : v = i
    · subst h; rw [if_pos rfl, List.getElem_map, List.getElem_range, upN_at]
    · rw [if_neg h, List.getElem_map, List.getElem_map, List.getElem_range, upN_ne _ _ (fun e => h e.symm)]
theorem riseI_len {R : List Int} (h : RiseI R) : ∀ (lo n : Nat), (∀ x ∈ R, (lo : Int) ≤ x ∧ x < ((lo + n : Nat) : Int)) → R.length ≤ n := by
  induction R with
  | nil => intro _ _ _; exact Nat.zero_le _
  | cons b R ih =>
    intro lo n hx
    obtain ⟨h1, h2⟩ := List.pairwise_cons.1 h
    have hb := hx b List.mem_cons_self
    obtain ⟨m, hm⟩ := Int.eq_ofNat_of_zero_le (show 0 ≤ b by omega)
    have h3 := ih h2 (m + 1) (lo + n - (m + 1)) (fun x hxm => by
      have h4 := h1 x hxm
      have h5 := hx x (List.mem_cons_of_mem _ hxm)
      omega)
    rw [List.length_cons]; omega
theorem inF_len {n : Nat} {L : List Ar} (h : NetOk n L) (v : Int) : (inF L v).length ≤ n := riseI_len (inF_rise h.sort v) 0 n (fun x hx => by
  obtain ⟨b, hb, rfl, _⟩ := mem_inF.1 hx
  have := h.may b hb; unfold mayA at this; omega)
theorem outL_len {n : Nat} {L : List Ar} (h : NetOk n L) (v : Int) : (outL L v).length ≤ n := by
  have h1 : RiseI ((outL L v).map (·.t)) := by unfold RiseI; rw [List.pairwise_map]; exact outL_rise h.sort v
  have := riseI_len h1 0 n (fun x hx => by
    obtain ⟨b, hb, rfl⟩ := List.mem_map.1 hx
    have := h.may b (mem_outL.1 hb).1; unfold mayA at this; omega)
  rwa [List.length_map] at this
end Mile
namespace Go.Proofs.YtjjedebjbgpimaaGreat
open Go.RowKit Mile
set_option maxRecDepth 100000
def BlT (w : World) (k : Nat) (T : TypeId) : Prop := ∃ cur fz, w.heap[k]? = some (.cells cur T fz)
theorem BlT.blk {w : World} {k : Nat} {T : TypeId} {cs : List Value} (h : Blk w k T cs) : BlT w k T := ⟨_, _, h⟩
theorem BlT.own {w : World} {B s n k : Nat} {T : TypeId} {v : Value} {xs : List Value} (h : w.ownsRow B T s v n xs) (hk : v.ownBlock = some k) : BlT w k T := by
  rcases h.2 with ⟨e1, _⟩ | ⟨g, cap, u, e1, _, hb, _⟩
  · rw [e1] at hk; cases hk
  · rw [e1] at hk
    obtain rfl : g = k := Option.some.inj hk
    exact ⟨_, _, hb⟩
theorem BlT.ne {w : World} {j k : Nat} {T U : TypeId} (h1 : BlT w j T) (h2 : BlT w k U) (hT : T ≠ U) : j ≠ k := fun e => by
  subst e
  obtain ⟨c1, z1, h1⟩ := h1
  obtain ⟨c2, z2, h2⟩ := h2
  rw [h1] at h2
  injection h2 with h2
  injection h2 with _ e _
  exact hT e
theorem BlT.lt {w : World} {k : Nat} {T : TypeId} (h : BlT w k T) : k < w.heap.size := by obtain ⟨_, _, h⟩ := h; exact lt_of_block h
structure NM (w : World) (p n ob ib : Nat) (oa ia : Nat → Option Addr) (oc ic : Nat → Nat) (ro : Nat → List Ar) (ri : Nat → List Int) : Prop where
  blk : Blk w p 91 [.slice (some ⟨ob, 0, none⟩) n n, .slice (some ⟨ib, 0, none⟩) n n]
  ob : Blk w ob 34 ((List.range n).map fun v => .slice (oa v) (ro v).length (oc v))
  ib : Blk w ib 40 ((List.range n).map fun v => .slice (ia v) (ri v).length (ic v))
  ow : ∀ v, v < n → w.ownsRow 0 50 4 (.slice (oa v) (ro v).length (oc v)) (ro v).length ((ro v).flatMap c4)
  iw : ∀ v, v < n → w.ownsRow 0 3 1 (.slice (ia v) (ri v).length (ic v)) (ri v).length ((ri v).map (Value.int .i64))
  oap : ∀ u v, u < n → v < n → u ≠ v → ∀ k, (Value.slice (oa u) 0 0).ownBlock = some k → (Value.slice (oa v) 0 0).ownBlock ≠ some k
  iap : ∀ u v, u < n → v < n → u ≠ v → ∀ k, (Value.slice (ia u) 0 0).ownBlock = some k → (Value.slice (ia v) 0 0).ownBlock ≠ some k
def nmF (p ob ib n : Nat) (oa ia : Nat → Option Addr) : Nat → Prop := fun k => k = p ∨ k = ob ∨ k = ib ∨ (∃ v, v < n ∧ (Value.slice (oa v) 0 0).ownBlock = some k) ∨ (∃ v, v < n ∧ (Value.slice (ia v) 0 0).ownBlock = some k)
section
variable {w w' : World} {p n ob ib : Nat} {oa ia : Nat → Option Addr} {oc ic : Nat → Nat} {ro : Nat → List Ar} {ri : Nat → List Int}
theorem NM.tyo (h : NM w p n ob ib oa ia oc ic ro ri) {v k : Nat} (hv : v < n) (hk : (Value.slice (oa v) 0 0).ownBlock = some k) : BlT w k 50 := BlT.own (h.ow v hv) (by rw [← hk]; exact own_slice _ _ _ _ _)
theorem NM.tyi (h : NM w p n ob ib oa ia oc ic ro ri) {v k : Nat} (hv : v < n) (hk : (Value.slice (ia v) 0 0).ownBlock = some k) : BlT w k 3 := BlT.own (h.iw v hv) (by rw [← hk]; exact own_slice _ _ _ _ _)
theorem NM.lt (h : NM w p n ob ib oa ia oc ic ro ri) {k : Nat} (hk : nmF p ob ib n oa ia k) : k < w.heap.size := by
  rcases hk with rfl | rfl | rfl | ⟨v, hv, hk⟩ | ⟨v, hv, hk⟩
  · exact h.blk.lt
  · exact h.ob.lt
  · exact h.ib.lt
  · exact (h.tyo hv hk).lt
  · exact (h.tyi hv hk).lt
theorem NM.keep {G : Nat → Prop} (h : NM w p n ob ib oa ia oc ic ro ri) (hm : Mod G w w') (hG : ∀ k, nmF p ob ib n oa ia k → ¬ G k) : NM w' p n ob ib oa ia oc ic ro ri :=
  ⟨h.blk.keep hm (hG p (.inl rfl)), h.ob.keep hm (hG ob (.inr (.inl rfl))), h.ib.keep hm (hG ib (.inr (.inr (.inl rfl)))),
   fun v hv => Own.keep (h.ow v hv) hm (fun k hk => hG k (.inr (.inr (.inr (.inl ⟨v, hv, by rw [← hk]; exact own_slice _ _ _ _ _⟩))))),
   fun v hv => Own.keep (h.iw v hv) hm (fun k hk => hG k (.inr (.inr (.inr (.inr ⟨v, hv, by rw [← hk]; exact own_slice _ _ _ _ _⟩))))), h.oap, h.iap⟩
theorem NM.later (h : NM w p n ob ib oa ia oc ic ro ri) (hm : Mod (fun _ => False) w w') : NM w' p n ob ib oa ia oc ic ro ri := h.keep hm (fun _ _ e => e)
theorem NM.ocell (h : NM w p n ob ib oa ia oc ic ro ri) {v : Nat} (hv : v < n) : w.cell? ⟨ob, v, none⟩ = some (.slice (oa v) (ro v).length (oc v)) := h.ob.cell v (by rw [List.getElem?_map, List.getElem?_range hv]; rfl)
theorem NM.icell (h : NM w p n ob ib oa ia oc ic ro ri) {v : Nat} (hv : v < n) : w.cell? ⟨ib, v, none⟩ = some (.slice (ia v) (ri v).length (ic v)) := h.ib.cell v (by rw [List.getElem?_map, List.getElem?_range hv]; rfl)
theorem NM.setO {w5 : World} {v : Nat} {a' : Option Addr} {c' : Nat} {R' : List Ar} {G : Nat → Prop} (h : NM w p n ob ib oa ia oc ic ro ri) (hv : v < n) (ho : w5.ownsRow 0 50 4 (.slice a' R'.length c') R'.length (R'.flatMap c4)) (hm : Mod G w w5) (hG : ∀ k, G k → (Value.slice (oa v) 0 0).ownBlock = some k)
    (hnew : ∀ k, (Value.slice a' 0 0).ownBlock = some k → (Value.slice (oa v) 0 0).ownBlock = some k ∨ w.heap.size ≤ k) :
    NM (w5.setCell ⟨ob, v, none⟩ (.slice a' R'.length c')) p n ob ib (upN oa v a') ia (upN oc v c') ic (upN ro v R') ri ∧ Mod (fun k => k = ob ∨ (Value.slice (oa v) 0 0).ownBlock = some k) w (w5.setCell ⟨ob, v, none⟩ (.slice a' R'.length c')) := by
  have hset : Mod (fun k => k = ob) w5 (w5.setCell ⟨ob, v, none⟩ (.slice a' R'.length c')) := Mod.setCell _ _ _ rfl
  have hGA : ∀ k, G k → BlT w k 50 := fun k hk => h.tyo hv (hG k hk)
  have hp5 := h.blk.keep hm (fun e => (BlT.blk h.blk).ne (hGA p e) (by decide) rfl)
  have ho5 := h.ob.keep hm (fun e => (BlT.blk h.ob).ne (hGA ob e) (by decide) rfl)
  have hi5 := h.ib.keep hm (fun e => (BlT.blk h.ib).ne (hGA ib e) (by decide) rfl)
  have hpo : p ≠ ob := (BlT.blk h.blk).ne (BlT.blk h.ob) (by decide)
  have hio : ib ≠ ob := (BlT.blk h.ib).ne (BlT.blk h.ob) (by decide)
  refine ⟨⟨hp5.keep hset hpo, ?_, hi5.keep hset hio, fun u hu => ?_, fun u hu => ?_, fun u t hu ht hut k hk => ?_, h.iap⟩, hm.trans hset (fun k _ e => .inr (hG k e)) (fun k _ e => .inl e)⟩
  · have h2 := ho5.set v (.slice a' R'.length c')
    rw [range_set] at h2
    have e : (upN (fun u => Value.slice (oa u) (ro u).length (oc u)) v (.slice a' R'.length c')) = fun u => .slice (upN oa v a' u) (upN ro v R' u).length (upN oc v c' u) := funext fun u => by
      by_cases hu : u = v
      · subst hu; simp only [upN_at]
      · simp only [upN_ne _ _ hu]
    rw [e] at h2
    exact h2
  · by_cases huv : u = v
    · subst huv
      simp only [upN_at]
      exact Own.keep ho hset (fun k hk e => (BlT.own ho hk).ne (BlT.blk ho5) (by decide) e)
    · simp only [upN_ne _ _ huv]
      have h5 := Own.keep (h.ow u hu) hm (fun k hk e => h.oap u v hu hv huv k (by rw [← hk]; exact own_slice _ _ _ _ _) (hG k e))
      exact Own.keep h5 hset (fun k hk e => (BlT.own h5 hk).ne (BlT.blk ho5) (by decide) e)
  · have h5 := Own.keep (h.iw u hu) hm (fun k hk e => (BlT.own (h.iw u hu) hk).ne (hGA k e) (by decide) rfl)
    exact Own.keep h5 hset (fun k hk e => (BlT.own h5 hk).ne (BlT.blk ho5) (by decide) e)
  · by_cases h1 : u = v
    · subst h1
      rw [upN_at] at hk
      rw [upN_ne _ _ (fun e => hut e.symm)]
      rcases hnew k hk with g | g
      · exact h.oap u t hu ht hut k g
      · exact fun e => by have := (h.tyo ht e).lt; omega
    · rw [upN_ne _ _ h1] at hk
      by_cases h2 : t = v
      · subst h2
        rw [upN_at]
        intro e
        rcases hnew k e with g | g
        · exact h.oap u t hu ht hut k hk g
        · have := (h.tyo hu hk).lt; omega
      · rw [upN_ne _ _ h2]
        exact h.oap u t hu ht hut k hk
theorem NM.setI {w5 : World} {v : Nat} {a' : Option Addr} {c' : Nat} {R' : List Int} {G : Nat → Prop} (h : NM w p n ob ib oa ia oc ic ro ri) (hv : v < n) (ho : w5.ownsRow 0 3 1 (.slice a' R'.length c') R'.length (R'.map (Value.int .i64))) (hm : Mod G w w5) (hG : ∀ k, G k → (Value.slice (ia v) 0 0).ownBlock = some k)
    (hnew : ∀ k, (Value.slice a' 0 0).ownBlock = some k → (Value.slice (ia v) 0 0).ownBlock = some k ∨ w.heap.size ≤ k) :
    NM (w5.setCell ⟨ib, v, none⟩ (.slice a' R'.length c')) p n ob ib oa (upN ia v a') oc (upN ic v c') ro (upN ri v R') ∧ Mod (fun k => k = ib ∨ (Value.slice (ia v) 0 0).ownBlock = some k) w (w5.setCell ⟨ib, v, none⟩ (.slice a' R'.length c')) := by
  have hset : Mod (fun k => k = ib) w5 (w5.setCell ⟨ib, v, none⟩ (.slice a' R'.length c')) := Mod.setCell _ _ _ rfl
  have hGA : ∀ k, G k → BlT w k 3 := fun k hk => h.tyi hv (hG k hk)
  have hp5 := h.blk.keep hm (fun e => (BlT.blk h.blk).ne (hGA p e) (by decide) rfl)
  have ho5 := h.ob.keep hm (fun e => (BlT.blk h.ob).ne (hGA ob e) (by decide) rfl)
  have hi5 := h.ib.keep hm (fun e => (BlT.blk h.ib).ne (hGA ib e) (by decide) rfl)
  have hpi : p ≠ ib := (BlT.blk h.blk).ne (BlT.blk h.ib) (by decide)
  have hio : ob ≠ ib := (BlT.blk h.ob).ne (BlT.blk h.ib) (by decide)
  refine ⟨⟨hp5.keep hset hpi, ho5.keep hset hio, ?_, fun u hu => ?_, fun u hu => ?_, h.oap, fun u t hu ht hut k hk => ?_⟩, hm.trans hset (fun k _ e => .inr (hG k e)) (fun k _ e => .inl e)⟩
  · have h2 := hi5.set v (.slice a' R'.length c')
    rw [range_set] at h2
    have e : (upN (fun u => Value.slice (ia u) (ri u).length (ic u)) v (.slice a' R'.length c')) = fun u => .slice (upN ia v a' u) (upN ri v R' u).length (upN ic v c' u) := funext fun u => by
      by_cases hu : u = v
      · subst hu; simp only [upN_at]
      · simp only [upN_ne _ _ hu]
    rw [e] at h2
    exact h2
  · have h5 := Own.keep (h.ow u hu) hm (fun k hk e => (BlT.own (h.ow u hu) hk).ne (hGA k e) (by decide) rfl)
    exact Own.keep h5 hset (fun k hk e => (BlT.own h5 hk).ne (BlT.blk hi5) (by decide) e)
  · by_cases huv : u = v
    · subst huv
      simp only [upN_at]
      exact Own.keep ho hset (fun k hk e => (BlT.own ho hk).ne (BlT.blk hi5) (by decide) e)
    · simp only [upN_ne _ _ huv]
      have h5 := Own.keep (h.iw u hu) hm (fun k hk e => h.iap u v hu hv huv k (by rw [← hk]; exact own_slice _ _ _ _ _) (hG k e))
      exact Own.keep h5 hset (fun k hk e => (BlT.own h5 hk).ne (BlT.blk hi5) (by decide) e)
  · by_cases h1 : u = v
    · subst h1
      rw [upN_at] at hk
      rw [upN_ne _ _ (fun e => hut e.symm)]
      rcases hnew k hk with g | g
      · exact h.iap u t hu ht hut k g
      · exact fun e => by have := (h.tyi ht e).lt; omega
    · rw [upN_ne _ _ h1] at hk
      by_cases h2 : t = v
      · subst h2
        rw [upN_at]
        intro e
        rcases hnew k e with g | g
        · exact h.iap u t hu ht hut k hk g
        · have := (h.tyi hu hk).lt; omega
      · rw [upN_ne _ _ h2]
        exact h.iap u t hu ht hut k hk
end
def NT (w : World) (p n : Nat) (L : List Ar) (F : Nat → Prop) : Prop :=
  NetOk n L ∧ n ≤ 512 ∧ ∃ ob ib oa ia oc ic, NM w p n ob ib oa ia oc ic (fun v => outL L (v : Int)) (fun v => inF L (v : Int)) ∧ F = nmF p ob ib n oa ia
def NQ (p n : Nat) (L : List Ar) (F : Nat → Prop) (w w' : World) : Prop := ∃ F', NT w' p n L F' ∧ (∀ k, F' k → F k ∨ w.heap.size ≤ k) ∧ Mod F w w'
section
variable {w w' : World} {p n : Nat} {L : List Ar} {F : Nat → Prop}
theorem NT.ok (h : NT w p n L F) : NetOk n L := h.1
theorem NT.n512 (h : NT w p n L F) : n ≤ 512 := h.2.1
theorem NT.lt (h : NT w p n L F) : ∀ k, F k → k < w.heap.size := fun k hk => by obtain ⟨_, _, _, _, _, _, _, _, h, rfl⟩ := h; exact h.lt hk
theorem NT.keep {G : Nat → Prop} (h : NT w p n L F) (hm : Mod G w w') (hG : ∀ k, F k → ¬ G k) : NT w' p n L F := by
  obtain ⟨h1, h2, ob, ib, oa, ia, oc, ic, h, rfl⟩ := h
  exact ⟨h1, h2, ob, ib, oa, ia, oc, ic, h.keep hm hG, rfl⟩
theorem NT.later (h : NT w p n L F) (hm : Mod (fun _ => False) w w') : NT w' p n L F := h.keep hm (fun _ _ e => e)
theorem Ev.nt (h : NT w p n L F) : Ev (fun w' => NT w' p n L F) w := fun _ m => h.later m
theorem NQ.same (h : NT w p n L F) (hm : Mod (fun _ => False) w w') : NQ p n L F w w' := ⟨F, h.later hm, fun _ e => .inl e, hm.trans (Mod.refl _ _) (fun _ _ e => e.elim) (fun _ _ e => e)⟩
theorem NT.cells (h : NT w p n L F) : ∃ ob ib, w.cell? ⟨p, 0, none⟩ = some (.slice (some ⟨ob, 0, none⟩) n n) ∧ w.cell? ⟨p, 1, none⟩ = some (.slice (some ⟨ib, 0, none⟩) n n) := by
  obtain ⟨h1, h2, ob, ib, oa, ia, oc, ic, h, rfl⟩ := h
  exact ⟨ob, ib, h.blk.cell 0 rfl, h.blk.cell 1 rfl⟩
theorem nt_len (h : NT w p n L F) : Calls Tryz.prog 27 #[.pointer (some ⟨p, 0, none⟩)] w fun e w' => e = .returned (.int .i64 (n : Int)) ∧ w = w' := by
  obtain ⟨ob, ib, c0, c1⟩ := h.cells
  clear h
  go_enter Tryz.func27, Tryz.ntmps27
  go_wp2_with fail
  go_ret
  exact ⟨rfl, rfl⟩
theorem nt_has (h : NT w p n L F) (v : Int) (r : Bool) (hr : decide (0 ≤ v ∧ v < (n : Int)) = r) : Calls Tryz.prog 67 #[.pointer (some ⟨p, 0, none⟩), .int .i64 v] w fun e w' => e = .returned (.bool r) ∧ w = w' := by
  have HL := Lib.hid (nt_len h)
  clear h
  by_cases h0 : 0 ≤ v
  · have z0 : decide (0 ≤ v) = true := by simpa using h0
    have hr2 : decide (v < (n : Int)) = r := by rw [← hr]; simp [h0]
    clear hr h0
    go_enter Tryz.func67, Tryz.ntmps67
    go_wp2_with fail
    refine HL.out.mono ?_
    rintro e w' ⟨rfl, rfl⟩
    go_wp2_with fail
    go_ret
    exact ⟨rfl, rfl⟩
  · have z0 : decide (0 ≤ v) = false := by simpa using h0
    have hr2 : r = false := by rw [← hr]; simp [h0]
    subst hr2
    clear hr h0
    go_enter Tryz.func67, Tryz.ntmps67
    go_wp2_with fail
    go_ret
    exact ⟨rfl, rfl⟩
end
end Go.Proofs.YtjjedebjbgpimaaGreat
