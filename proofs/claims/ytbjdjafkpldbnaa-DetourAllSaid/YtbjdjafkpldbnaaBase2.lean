/- More on slices: where an element lies, what an index runs to. -/
import Derived.Test.YtbjdjafkpldbnaaBase
import Derived.Lib.Hide
import Derived.Laws.OwnMore
namespace Mile
open Go Go.RowKit

/-- Where element j of a slice lies. -/
def elemA (a : Option Addr) (j size : Nat) : Addr := (a.getD default).add (j * size)

theorem run_indexS {P : Program} (wx : World) (t e : TypeId) (i : TypeInfo) (size : Nat) (ht : P.underlying t = some (.slice e)) (hi : P.info? e = some i) (hs : i.size = size) (a : Option Addr) (n c j : Nat) (hj : j < n) (ha : a ≠ none) :
    (Instr.indexAt t (.slice a n c) (.int .i64 (j : Int))).run P wx = .ok (.pointer (some (elemA a j size))) wx := by
  cases a with
  | none => exact absurd rfl ha
  | some ad =>
    simp [Instr.indexAt, run_underlying ht, asIntOf, Go.sizeOf, typeInfo, hi, hs, elemA]
    intro h; omega

theorem Rd.some_ {w : World} {size n c : Nat} {a : Option Addr} {xs : List Value} (h : Rd w size (.slice a n c) n xs) (hn : 0 < n) : a ≠ none := by
  rintro rfl
  obtain ⟨_, a', c', he, _, _, h3, _⟩ := h
  cases he
  have := (h3 rfl).1
  omega

theorem Rd.elem {w : World} {n c j : Nat} {a : Option Addr} {xs : List Value} (h : Rd w 1 (.slice a n c) n xs) {u : Value} (hj : xs[j]? = some u) : w.cell? (elemA a j 1) = some u := by
  obtain ⟨hl, a', c', he, _, _, h3, h4⟩ := h
  cases he
  cases a with
  | none =>
    obtain ⟨rfl, _⟩ := h3 rfl
    have : xs = [] := List.eq_nil_of_length_eq_zero (by simpa using hl)
    subst this
    simp at hj
  | some ad => simpa [elemA] using (h4 ad rfl).2 j u hj

/-- Of a slice with elements: where element j lies, as a place; its cells. -/
theorem Rd.place {w : World} {size n c j : Nat} {a : Option Addr} {xs : List Value} (h : Rd w size (.slice a n c) n xs) (hj : j < n) : ∃ b o, elemA a j size = ⟨b, o, none⟩ ∧ (Value.slice a n c).ownBlock = some b := by
  obtain ⟨hl, a', c', he, _, _, h3, h4⟩ := h
  cases he
  cases a with
  | none => have := (h3 rfl).1; omega
  | some ad =>
    have hs := (h4 ad rfl).1 (by omega)
    obtain ⟨b, o, sp⟩ := ad
    simp at hs; subst hs
    refine ⟨b, o + j * size, ?_, rfl⟩
    simp only [elemA, Option.getD_some]
    rw [Addr.add_lit]

theorem Rd.elemN {w : World} {size n c j : Nat} {a : Option Addr} {xs : List Value} (h : Rd w size (.slice a n c) n xs) {b o : Nat} (hb : elemA a j size = ⟨b, o, none⟩) (i : Nat) {u : Value} (hj : xs[j * size + i]? = some u) : w.cell? ⟨b, o + i, none⟩ = some u := by
  obtain ⟨hl, a', c', he, _, _, h3, h4⟩ := h
  cases he
  cases a with
  | none =>
    obtain ⟨rfl, _⟩ := h3 rfl
    have : xs = [] := List.eq_nil_of_length_eq_zero (by simpa using hl)
    subst this
    simp at hj
  | some ad =>
    have hc := (h4 ad rfl).2 _ u hj
    have hs : ad.spot = none := by
      refine (h4 ad rfl).1 ?_
      rcases Nat.eq_zero_or_pos n with e | e
      · subst e
        rw [Nat.zero_mul] at hl
        rw [List.eq_nil_of_length_eq_zero hl] at hj
        simp at hj
      · exact e
    obtain ⟨b', o', sp⟩ := ad
    simp at hs; subst hs
    simp only [elemA, Option.getD_some] at hb
    rw [Addr.add_lit] at hb
    cases hb
    rw [Addr.add_lit] at hc
    rw [show o' + j * size + i = o' + (j * size + i) by omega]
    exact hc

/-- append at an operation whose guard says yes. -/
theorem wpList_append_want {P : Program} {w : World} {ops : Array Oper} {rest : List Oper} {o : Oper} {a : Act} {Q : Exit → Act → World → Prop} (hgd : Region.wanted o (yielded ops a.tmps) = true) (s x : Operand) (t : TypeId)
    (ho : o.op = .call { callee := .builtin .append, args := #[s, x], argTypes := #[t, t] })
    (e : TypeId) (i : TypeInfo) (z : Value) (size bytes : Nat) (ht : P.underlying t = some (.slice e)) (hi : P.info? e = some i) (hz : i.zero = some z)
    (hsize : i.size = size) (hby : i.bytes = bytes) (hzs : z.cells.size = size) (hsz : 0 < size)
    (v : Value) (n : Nat) (xs : List Value) (hs : a.eval s = v) (hown : w.ownsRow 0 e size v n xs)
    (xv : Value) (m : Nat) (news : List Value) (hx : a.eval x = xv) (hrd : Rd w size xv m news) (h1 : ∀ u ∈ news, u.oneCell' = true)
    (h63 : n + m ≤ maxLen) (hbytes : (n + m) * bytes ≤ 140737488355328)
    (h : ∀ v' w', Appended w w' e size v v' (n + m) (xs ++ news) → wpList P ops Q rest (a.put o.dst v') w') : wpList P ops Q (o :: rest) a w := by
  refine wpList_step fun K hK' => ?_
  rw [if_pos hgd]
  obtain ⟨v', w', hrun, hap⟩ := run_append_any (P := P) w t o.type e i z size bytes ht hi hz hsize hby hzs hsz v n xs hown xv m news hrd h1 h63 hbytes
  unfold Oper.wp
  simp [execOp, ho, resolve, invoke, builtin, hs, hx, hrun, Result.andThen]
  exact hK' _ _ (h v' w' hap)

/-- An empty literal's new row. -/
theorem own_empty (w : World) (T : TypeId) (size g : Nat) (hg : g = w.heap.size) : (w.alloc (.cells #[] T)).ownsRow 0 T size (.slice (some ⟨g, 0, none⟩) 0 0) 0 [] := by
  subst hg; exact World.ownsRow_made w #[] 0 (Nat.zero_le _) (Nat.zero_le _) (by simp)

/-- A new row of so many zeros. -/
def zrow (z : Value) (n : Nat) : Array Value := madeCells #[z] n
theorem zrow_toList (z : Value) (n : Nat) : (zrow z n).toList = List.replicate n z := toList_madeCells_one z n

/-- 'make' of so many elements of one cell each, in whatever world. -/
theorem run_makeS {P : Program} (t e : TypeId) (i : TypeInfo) (z : Value) (ht : P.underlying t = some (.slice e)) (hi : P.info? e = some i) (hz : i.zero = some z) (hc : z.cells = #[z]) (hs : i.size = 1) (n : Nat)
    (hbytes : i.bytes * n ≤ 281474976710656) (h63 : n ≤ 1000000000) (wx : World) :
    (Instr.makeSlice t (.int .i64 (n : Int)) (.int .i64 (n : Int))).run P wx = .ok (.slice (some ⟨wx.heap.size, 0, none⟩) n n) (wx.alloc (.cells (zrow z n) e)) := by
  have hb' : (i.bytes : Int) * (n : Int) ≤ 281474976710656 := by
    have h : ((i.bytes * n : Nat) : Int) ≤ 281474976710656 := by omega
    rwa [Int.natCast_mul] at h
  have hr := run_make (P := P) (w := wx) t e i z ht hi hz .i64 .i64 n n (by omega) (Int.le_refl _) hb' (by omega)
  simp only [Int.toNat_natCast, hs, Nat.mul_one] at hr
  rw [hr, hc]; rfl

theorem own_zrow (w : World) (e : TypeId) (z : Value) (n g : Nat) (hg : g = w.heap.size) (hn : n ≤ 1000000000) : (w.alloc (.cells (zrow z n) e)).ownsRow 0 e 1 (.slice (some ⟨g, 0, none⟩) n n) n (List.replicate n z) := by
  subst hg
  have h := World.ownsRow_lit (base := 0) (e := e) (size := 1) w (zrow z n) n (Nat.zero_le _) (by unfold maxLen; omega) (by unfold zrow; rw [Nat.mul_one]; exact size_madeCells _ _)
  rwa [zrow_toList] at h

/-- Nothing that was there before the row's block was made has turned. -/
theorem Appended.modOld {W0 w w' : World} {e : TypeId} {size : Nat} {v v' : Value} {n' : Nat} {ys : List Value} (h : Appended w w' e size v v' n' ys) (hM : Mod (fun _ => False) W0 w) (hv : ∀ k, v.ownBlock = some k → W0.heap.size ≤ k) : Mod (fun _ => False) W0 w' :=
  hM.trans h.mod (fun _ _ e => e) (fun i hi e => by have := hv i e; omega)
theorem Appended.low {B : Nat} {w w' : World} {e : TypeId} {size : Nat} {v v' : Value} {n' : Nat} {ys : List Value} (h : Appended w w' e size v v' n' ys) (hB : B ≤ w.heap.size) (hv : ∀ k, v.ownBlock = some k → B ≤ k) : ∀ k, v'.ownBlock = some k → B ≤ k := fun k hk => by
  rcases h.row k hk with h | h
  · exact hv k h
  · omega
theorem low_lit {g B n c : Nat} (h : B ≤ g) : ∀ k, (Value.slice (some ⟨g, 0, none⟩) n c).ownBlock = some k → B ≤ k := fun k hk => by
  have : g = k := Option.some.inj hk
  omega

/-- What a call on an object leaves: the object anew, its blocks the old ones and new ones. -/
def Aft (w w' : World) (F F' : Nat → Prop) : Prop := Mod F w w' ∧ ∀ k, F' k → F k ∨ w.heap.size ≤ k

theorem Aft.refl (w : World) (F : Nat → Prop) : Aft w w F F := ⟨Mod.refl _ _, fun _ e => .inl e⟩
theorem Aft.trans {a b c : World} {F G H : Nat → Prop} (h : Aft a b F G) (k : Aft b c G H) : Aft a c F H :=
  ⟨h.1.trans k.1 (fun _ _ e => e) (fun i hi e => (h.2 i e).elim id (fun h' => absurd hi (by omega))), fun i e => (k.2 i e).elim (h.2 i) (fun h' => .inr (by have := h.1.size; omega))⟩
theorem Aft.ofMod {w w' : World} {F : Nat → Prop} (h : Mod F w w') : Aft w w' F F := ⟨h, fun _ e => .inl e⟩

/-- A literal's new row reads as its cells, whatever of it is frozen; elements of several cells. -/
theorem Rd.litN {w : World} (T : TypeId) (size : Nat) (xs : List Value) (fz : Nat × Nat) (g n : Nat) (hg : g = w.heap.size) (hn : xs.length = n * size) (hm : n ≤ 1000000000) : Rd (w.alloc (.cells xs.toArray T fz)) size (.slice (some ⟨g, 0, none⟩) n n) n xs := by
  subst hg
  refine ⟨hn, some ⟨w.heap.size, 0, none⟩, n, rfl, Nat.le_refl _, by unfold maxLen; omega, fun h => (by cases h), fun ad had => ?_⟩
  cases had
  refine ⟨fun _ => rfl, fun j u hj => ?_⟩
  rw [Addr.add_lit, Nat.zero_add]
  have h := heap_alloc_new w (.cells xs.toArray T fz)
  unfold World.cell?; rw [h]; simp [hj]
theorem Rd.lit {w : World} (T : TypeId) (xs : List Value) (fz : Nat × Nat) (g n : Nat) (hg : g = w.heap.size) (hn : xs.length = n) (hm : n ≤ 1000000000) : Rd (w.alloc (.cells xs.toArray T fz)) 1 (.slice (some ⟨g, 0, none⟩) n n) n xs :=
  Rd.litN T 1 xs fz g n hg (by omega) hm
theorem Mod.drewN (F : Nat → Prop) (w : World) : ∀ n, Mod F w (w.drewN n) := fun _ => ⟨rfl, rfl, rfl, Nat.le_refl _, fun _ _ _ => rfl⟩
end Mile
