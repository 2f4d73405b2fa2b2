/- The worlds' frame for all walks of this seat: which blocks a call may have turned, blocks known whole, slices that read as a list, append onto a row of the call's own. -/
import Derived.WalkKit
import Derived.WalkSpells
import Derived.WalkLawsBesides
import Derived.Deep.RegionLaw
import Derived.Laws.CopyRow
import Derived.Lib.Hide
import Derived.Laws.OwnMore
import Derived.Orders
namespace Mile
open Go Go.RowKit

structure Mod (F : Nat → Prop) (w w' : World) : Prop where
 os : w'.os = w.os
 tape : w'.tape = w.tape
 output : w'.output = w.output
 size : w.heap.size ≤ w'.heap.size
 block : ∀ k, k < w.heap.size → ¬ F k → w'.heap[k]? = w.heap[k]?

theorem Mod.refl (F : Nat → Prop) (w : World) : Mod F w w := ⟨rfl, rfl, rfl, Nat.le_refl _, fun _ _ _ => rfl⟩

theorem Mod.trans {F G H : Nat → Prop} {a b c : World} (h : Mod F a b) (k : Mod G b c) (hF : ∀ i, i < a.heap.size → F i → H i) (hG : ∀ i, i < a.heap.size → G i → H i) : Mod H a c :=
 ⟨k.os.trans h.os, k.tape.trans h.tape, k.output.trans h.output, Nat.le_trans h.size k.size, fun i hi hn =>
  (k.block i (Nat.lt_of_lt_of_le hi h.size) (fun e => hn (hG i hi e))).trans (h.block i hi (fun e => hn (hF i hi e)))⟩

theorem Mod.mono {F G : Nat → Prop} {a b : World} (h : Mod F a b) (hF : ∀ i, i < a.heap.size → F i → G i) : Mod G a b :=
 ⟨h.os, h.tape, h.output, h.size, fun i hi hn => h.block i hi (fun e => hn (hF i hi e))⟩

theorem Mod.drew (F : Nat → Prop) (w : World) : Mod F w w.drew := ⟨rfl, rfl, rfl, Nat.le_refl _, fun _ _ _ => rfl⟩
theorem Mod.alloc (F : Nat → Prop) (w : World) (o : Obj) : Mod F w (w.alloc o) := ⟨rfl, rfl, rfl, by simp, fun k hk _ => Below.heap_alloc _ _ _ hk⟩
theorem Mod.setCell {F : Nat → Prop} (w : World) (a : Addr) (u : Value) (h : F a.block) : Mod F w (w.setCell a u) :=
 ⟨rfl, rfl, rfl, by simp, fun k _ hk => Below.heap_setCell _ _ _ _ (fun e => hk (e ▸ h))⟩

theorem Mod.thenDrew {F : Nat → Prop} {a w : World} (h : Mod F a w) : Mod F a w.drew := ⟨h.os, h.tape, h.output, h.size, h.block⟩
theorem Mod.thenAlloc {F : Nat → Prop} {a w : World} (h : Mod F a w) (o : Obj) : Mod F a (w.alloc o) := h.trans (Mod.alloc F w o) (fun _ _ e => e) (fun _ _ e => e)
theorem Mod.thenSet {F : Nat → Prop} {a w : World} (h : Mod F a w) (p : Addr) (u : Value) (hp : p.block < a.heap.size → F p.block) : Mod F a (w.setCell p u) :=
 h.trans (Mod.setCell (F := fun k => k = p.block) w p u rfl) (fun _ _ e => e) (fun i hi e => by subst e; exact hp hi)

theorem Mod.below {F : Nat → Prop} {w w' : World} (h : Mod F w w') {B : Nat} (hB : B ≤ w.heap.size) (hF : ∀ k, F k → B ≤ k) : Below B w w' :=
 ⟨h.os, h.tape, h.output, h.size, fun k hk => h.block k (by omega) (fun e => by have := hF k e; omega)⟩

theorem Mod.ofGrown {w w' : World} {row : Option Nat} (h : w.grownBy w' row) : Mod (fun k => row = some k) w w' :=
 ⟨h.os, h.tape, h.output, h.size, fun k hk hn => h.block k hk (fun e => hn e.symm)⟩

theorem Mod.cell {F : Nat → Prop} {w w' : World} (h : Mod F w w') {p : Addr} {v : Value} (hv : w.cell? p = some v) (hp : ¬ F p.block) : w'.cell? p = some v :=
 (World.cell?_of_block (w := w) (h.block p.block (World.block_lt_of_cell? w p hv) hp)).trans hv

def Blk (w : World) (b : Nat) (T : TypeId) (cs : List Value) : Prop := w.heap[b]? = some (.cells cs.toArray T (0, 0))

theorem Blk.lt {w : World} {b : Nat} {T : TypeId} {cs : List Value} (h : Blk w b T cs) : b < w.heap.size := lt_of_block h
theorem Blk.cell {w : World} {b : Nat} {T : TypeId} {cs : List Value} (h : Blk w b T cs) (i : Nat) {v : Value} (hi : cs[i]? = some v) : w.cell? ⟨b, i, none⟩ = some v := by
 unfold Blk at h; simp [World.cell?, h, hi]
theorem Blk.free {w : World} {b : Nat} {T : TypeId} {cs : List Value} (h : Blk w b T cs) (i : Nat) : w.frozen? ⟨b, i, none⟩ = false := by
 unfold Blk at h; simp [World.frozen?, h]
theorem Blk.keep {F : Nat → Prop} {w w' : World} {b : Nat} {T : TypeId} {cs : List Value} (h : Blk w b T cs) (hm : Mod F w w') (hb : ¬ F b) : Blk w' b T cs :=
 (hm.block b h.lt hb).trans h
theorem Blk.drew {w : World} {b : Nat} {T : TypeId} {cs : List Value} (h : Blk w b T cs) : Blk w.drew b T cs := h
theorem Blk.alloc {w : World} {b : Nat} {T : TypeId} {cs : List Value} (h : Blk w b T cs) (o : Obj) : Blk (w.alloc o) b T cs := h.keep (Mod.alloc (fun _ => False) w o) (fun e => e)
theorem Blk.new (w : World) (T : TypeId) (cs : List Value) : Blk (w.alloc (.cells cs.toArray T)) w.heap.size T cs := heap_alloc_new w _
theorem Blk.set {w : World} {b : Nat} {T : TypeId} {cs : List Value} (h : Blk w b T cs) (i : Nat) (v : Value) : Blk (w.setCell ⟨b, i, none⟩ v) b T (cs.set i v) := by
 have hlt := h.lt
 unfold Blk at h ⊢
 have h' : w.heap[b] = .cells cs.toArray T (0, 0) := by simpa [Array.getElem?_eq_getElem hlt] using h
 show (w.heap.modify b _)[b]? = _
 rw [Array.getElem?_eq_getElem (by simpa using hlt), Array.getElem_modify_self, h']
 simp
def Rd (w : World) (size : Nat) (v : Value) (n : Nat) (xs : List Value) : Prop :=
 xs.length = n * size ∧ ∃ a c, v = .slice a n c ∧ n ≤ c ∧ c ≤ maxLen ∧ (a = none → n = 0 ∧ c = 0) ∧ ∀ ad, a = some ad → (0 < n → ad.spot = none) ∧ ∀ j u, xs[j]? = some u → w.cell? (ad.add j) = some u

theorem Rd.nil (w : World) (size : Nat) : Rd w size (.slice none 0 0) 0 [] := ⟨by simp, none, 0, rfl, Nat.le_refl _, Nat.zero_le _, fun _ => ⟨rfl, rfl⟩, fun _ h => by cases h⟩

theorem Rd.keep {F : Nat → Prop} {w w' : World} {size : Nat} {v : Value} {n : Nat} {xs : List Value} (h : Rd w size v n xs) (hm : Mod F w w') (hb : ∀ k, v.ownBlock = some k → ¬ F k) : Rd w' size v n xs := by
 obtain ⟨hl, a, c, rfl, h1, h2, h3, h4⟩ := h
 refine ⟨hl, a, c, rfl, h1, h2, h3, fun ad had => ⟨(h4 ad had).1, fun j u hj => hm.cell ((h4 ad had).2 j u hj) ?_⟩⟩
 have : (ad.add j).block = ad.block := by unfold Addr.add; split <;> rfl
 rw [this]
 exact hb _ (by simp [Value.ownBlock, had])

theorem Rd.keepA {F : Nat → Prop} {w w' : World} {size : Nat} {v : Value} {n : Nat} {xs : List Value} (h : Rd w size v n xs) (hm : Mod F w w') (hb : ∀ k, v.ownBlock = some k → F k → xs = []) : Rd w' size v n xs := by
 by_cases hx : xs = []
 ·
  subst hx
  obtain ⟨hl, a, c, rfl, h1, h2, h3, h4⟩ := h
  exact ⟨hl, a, c, rfl, h1, h2, h3, fun ad had => ⟨(h4 ad had).1, fun j u hj => by simp at hj⟩⟩
 ·
  exact h.keep hm (fun k hk hf => hx (hb k hk hf))

theorem Rd.lt {w : World} {size : Nat} {v : Value} {n : Nat} {xs : List Value} (h : Rd w size v n xs) {k : Nat} (hk : v.ownBlock = some k) (hle : w.heap.size ≤ k) : xs = [] := by
 obtain ⟨hl, a, c, rfl, h1, h2, h3, h4⟩ := h
 cases a with
 | none => cases hk
 | some ad =>
  cases xs with
  | nil => rfl
  | cons x r =>
   have := World.block_lt_of_cell? w _ ((h4 ad rfl).2 0 x rfl)
   simp [Value.ownBlock] at hk
   simp [Addr.add] at this
   omega

theorem Rd.ofOwn {w : World} {base : Nat} {e : TypeId} {size : Nat} {v : Value} {n : Nat} {xs : List Value} (h : w.ownsRow base e size v n xs) : Rd w size v n xs := by
 refine ⟨h.1, ?_⟩
 rcases h.2 with ⟨rfl, rfl⟩ | ⟨g, cap, cur, rfl, hb, hg, h1, h2, _⟩
 ·
  exact ⟨none, 0, rfl, Nat.le_refl _, Nat.zero_le _, fun _ => ⟨rfl, rfl⟩, fun _ h => by cases h⟩
 ·
  refine ⟨some ⟨g, 0, none⟩, cap, rfl, h1, h2, fun h => (by cases h), fun ad had => ?_⟩
  cases had
  exact ⟨fun _ => rfl, h.cells (g := g) rfl⟩

theorem Own.keep {F : Nat → Prop} {w w' : World} {base : Nat} {e : TypeId} {size : Nat} {v : Value} {n : Nat} {xs : List Value} (h : w.ownsRow base e size v n xs) (hm : Mod F w w') (hb : ∀ k, v.ownBlock = some k → ¬ F k) : w'.ownsRow base e size v n xs := by
 refine ⟨h.1, ?_⟩
 rcases h.2 with hn | ⟨g, cap, cur, rfl, hbg, hg, rest⟩
 ·
  exact .inl hn
 ·
  exact .inr ⟨g, cap, cur, rfl, hbg, (hm.block g (lt_of_block hg) (hb g (by simp [Value.ownBlock]))).trans hg, rest⟩

theorem Own.base {w : World} {base base' : Nat} {e : TypeId} {size : Nat} {v : Value} {n : Nat} {xs : List Value} (h : w.ownsRow base e size v n xs) (hb : base' ≤ base) : w.ownsRow base' e size v n xs := by
 refine ⟨h.1, ?_⟩
 rcases h.2 with hn | ⟨g, cap, cur, rfl, hbg, rest⟩
 ·
  exact .inl hn
 ·
  exact .inr ⟨g, cap, cur, rfl, by omega, rest⟩

theorem Own.rebase {w : World} {base B : Nat} {e : TypeId} {size : Nat} {v : Value} {n : Nat} {xs : List Value} (h : w.ownsRow base e size v n xs) (hB : ∀ k, v.ownBlock = some k → B ≤ k) : w.ownsRow B e size v n xs := by
 refine ⟨h.1, ?_⟩
 rcases h.2 with hn | ⟨g, cap, cur, rfl, hbg, rest⟩
 ·
  exact .inl hn
 ·
  exact .inr ⟨g, cap, cur, rfl, hB g (by simp [Value.ownBlock]), rest⟩

theorem Own.lt {w : World} {base : Nat} {e : TypeId} {size : Nat} {v : Value} {n : Nat} {xs : List Value} (h : w.ownsRow base e size v n xs) {k : Nat} (hk : v.ownBlock = some k) : k < w.heap.size := (h.lt k hk).2

theorem Rd.alloc {w : World} {size : Nat} {v : Value} {n : Nat} {xs : List Value} (h : Rd w size v n xs) (o : Obj) : Rd (w.alloc o) size v n xs := h.keep (Mod.alloc (fun _ => False) w o) (fun _ _ e => e)
theorem Rd.drew {w : World} {size : Nat} {v : Value} {n : Nat} {xs : List Value} (h : Rd w size v n xs) : Rd w.drew size v n xs := h
theorem Rd.one (w : World) (T : TypeId) (x : Value) : Rd (w.alloc (.cells #[x] T)) 1 (.slice (some ⟨w.heap.size, 0, none⟩) 1 1) 1 [x] := by
 refine ⟨rfl, some ⟨w.heap.size, 0, none⟩, 1, rfl, Nat.le_refl _, by decide, fun h => (by cases h), fun ad had => ?_⟩
 cases had
 refine ⟨fun _ => rfl, fun j u hj => ?_⟩
 match j, hj with
 | 0, hj => simp at hj; subst hj; simp [Addr.add]

theorem Rd.at_ {w : World} {b off n c i : Nat} {xs : List Value} (h : Rd w 1 (.slice (some ⟨b, off, none⟩) n c) n xs) {u : Value} (hi : xs[i]? = some u) : w.cell? ⟨b, off + i, none⟩ = some u := by
 obtain ⟨_, a', c', he, _, _, _, hc⟩ := h
 cases he
 have := (hc _ rfl).2 i u hi
 rwa [Addr.add_lit] at this

theorem Rd.shape {w : World} {size : Nat} {v : Value} {n : Nat} {xs : List Value} (h : Rd w size v n xs) :
  (n = 0 ∧ xs = [] ∧ ∃ a c, v = .slice a 0 c) ∨ (0 < n ∧ ∃ b off c, v = .slice (some ⟨b, off, none⟩) n c ∧ n ≤ c ∧ c ≤ maxLen) := by
 obtain ⟨hl, a, c, rfl, h1, h2, h3, h4⟩ := h
 rcases Nat.eq_zero_or_pos n with rfl | hp
 ·
  exact .inl ⟨rfl, List.eq_nil_of_length_eq_zero (by simpa using hl), a, c, rfl⟩
 ·
  cases a with
  | none => have := (h3 rfl).1; omega
  | some ad => obtain ⟨b, off, sp⟩ := ad; have := (h4 _ rfl).1 hp; simp at this; subst this; exact .inr ⟨hp, b, off, c, rfl, h1, h2⟩

theorem own_slice (a : Option Addr) (l c l' c' : Nat) : (Value.slice a l c).ownBlock = (Value.slice a l' c').ownBlock := by cases a <;> rfl

def dropA (a : Option Addr) (cap n size : Nat) : Option Addr := if cap = n then a else a.map (·.add (n * size))

theorem dropA_own (a : Option Addr) (cap n size l c : Nat) (l' c' : Nat) : (Value.slice (dropA a cap n size) l c).ownBlock = (Value.slice a l' c').ownBlock := by
 unfold dropA
 split
 ·
  cases a <;> rfl
 ·
  cases a with
  | none => rfl
  | some ad =>
   have : (ad.add (n * size)).block = ad.block := by unfold Addr.add; split <;> rfl
   simp [Value.ownBlock, this]

theorem Rd.take {w : World} {size len cap n : Nat} {a : Option Addr} {xs : List Value} (h : Rd w size (.slice a len cap) len xs) (hn : n ≤ len) : Rd w size (.slice a n cap) n (xs.take (n * size)) := by
 obtain ⟨hl, a', c', he, h1, h2, h3, h4⟩ := h
 cases he
 refine ⟨?_, a, cap, rfl, by omega, h2, fun e => ⟨by have := (h3 e).1; omega, (h3 e).2⟩, fun ad had => ⟨fun hp => (h4 ad had).1 (by omega), fun j u hj => (h4 ad had).2 j u ?_⟩⟩
 ·
  rw [List.length_take, hl]; exact Nat.min_eq_left (Nat.mul_le_mul_right _ hn)
 ·
  rw [List.getElem?_take] at hj
  split at hj
  ·
   exact hj
  ·
   cases hj

theorem Rd.drop {w : World} {size len cap n : Nat} {a : Option Addr} {xs : List Value} (h : Rd w size (.slice a len cap) len xs) (hn : n ≤ len) : Rd w size (.slice (dropA a cap n size) (len - n) (cap - n)) (len - n) (xs.drop (n * size)) := by
 obtain ⟨hl, a', c', he, h1, h2, h3, h4⟩ := h
 cases he
 refine ⟨?_, _, cap - n, rfl, by omega, by omega, fun e => ?_, fun ad had => ?_⟩
 ·
  rw [List.length_drop, hl, Nat.sub_mul]
 ·
  have ha : a = none := by
   unfold dropA at e
   split at e
   ·
    exact e
   ·
    cases a with
    | none => rfl
    | some _ => cases e
  have := h3 ha; omega
 ·
  unfold dropA at had
  by_cases hc : cap = n
  ·
   rw [if_pos hc] at had
   refine ⟨fun hp => (h4 ad had).1 (by omega), fun j u hj => ?_⟩
   have : (xs.drop (n * size)).length = 0 := by rw [List.length_drop, hl, show n = len by omega]; exact Nat.sub_self _
   rw [List.eq_nil_of_length_eq_zero this] at hj
   simp at hj
  ·
   rw [if_neg hc] at had
   cases a with
   | none => cases had
   | some b =>
    simp at had
    subst had
    refine ⟨fun hp => ?_, fun j u hj => ?_⟩
    ·
     have := (h4 b rfl).1 (by omega)
     unfold Addr.add; split
     ·
      exact this
     ·
      rfl
    ·
     rw [List.getElem?_drop] at hj
     have := (h4 b rfl).2 _ u hj
     have hpos : 0 < len := by
      rcases Nat.eq_zero_or_pos len with e | e
      ·
       subst e
       rw [Nat.zero_mul] at hl
       rw [List.eq_nil_of_length_eq_zero hl] at hj
       simp at hj
      ·
       exact e
     have hb := (h4 b rfl).1 hpos
     obtain ⟨bb, bo, bs⟩ := b
     simp at hb; subst hb
     rw [Addr.add_lit] at this
     rw [Addr.add_lit, Addr.add_lit, show bo + n * size + j = bo + (n * size + j) by omega]
     exact this

theorem run_takeS {P : Program} (w : World) (t e : TypeId) (i : TypeInfo) (ht : P.underlying t = some (.slice e)) (hi : P.info? e = some i) (a : Option Addr) (len cap n : Nat) (h : n ≤ cap) :
  (Instr.slice t (.slice a len cap) none (some (.int .i64 (n : Int))) none).run P w = .ok (.slice a n cap) w := by
 have h1 : (n : Int) ≤ (cap : Int) := by omega
 have h2 : (if cap = 0 then a else Option.map (fun x => x.add (0 * i.size)) a) = a := by
  split
  ·
   rfl
  ·
   cases a <;> simp [Addr.add]
 simp [Instr.slice, run_underlying ht, Instr.sliceBounds, run_sliceBound, h1, Go.sizeOf, typeInfo, hi]
 simpa using h2

theorem run_dropS {P : Program} (w : World) (t e : TypeId) (i : TypeInfo) (size : Nat) (ht : P.underlying t = some (.slice e)) (hi : P.info? e = some i) (hs : i.size = size) (a : Option Addr) (len cap n : Nat) (h : n ≤ len) :
  (Instr.slice t (.slice a len cap) (some (.int .i64 (n : Int))) none none).run P w = .ok (.slice (dropA a cap n size) (len - n) (cap - n)) w := by
 have h1 : (n : Int) ≤ (len : Int) := by omega
 simp [Instr.slice, run_underlying ht, Instr.sliceBounds, run_sliceBound, h1, Go.sizeOf, typeInfo, hi, hs, dropA]

structure Appended (w w' : World) (e : TypeId) (size : Nat) (v v' : Value) (n' : Nat) (ys : List Value) : Prop where
 own : w'.ownsRow 0 e size v' n' ys
 mod : Mod (fun k => v.ownBlock = some k) w w'
 row : ∀ k, v'.ownBlock = some k → v.ownBlock = some k ∨ w.heap.size ≤ k
 form : ∃ a c, v' = .slice a n' c
 still : ∀ a n c, v = .slice a n c → (c < n' ∨ n' = n) → Mod (fun _ => False) w w'

theorem own_form {w : World} {base : Nat} {e : TypeId} {size : Nat} {v : Value} {n : Nat} {xs : List Value} (h : w.ownsRow base e size v n xs) : ∃ a c, v = .slice a n c := by
 rcases h.2 with ⟨rfl, rfl⟩ | ⟨g, cap, cur, rfl, _⟩
 ·
  exact ⟨_, _, rfl⟩
 ·
  exact ⟨_, _, rfl⟩

theorem run_append_any {P : Program} (w : World) (t ty e : TypeId) (i : TypeInfo) (z : Value) (size bytes : Nat) (ht : P.underlying t = some (.slice e)) (hi : P.info? e = some i) (hz : i.zero = some z)
  (hsize : i.size = size) (hby : i.bytes = bytes) (hzs : z.cells.size = size) (hsz : 0 < size)
  (v : Value) (n : Nat) (xs : List Value) (hown : w.ownsRow 0 e size v n xs)
  (x : Value) (m : Nat) (news : List Value) (hx : Rd w size x m news) (h1 : ∀ u ∈ news, u.oneCell' = true)
  (h63 : n + m ≤ maxLen) (hbytes : (n + m) * bytes ≤ 140737488355328) :
  ∃ v' w', (Builtin.append_ #[t, t] ty #[v, x]).run P w = .ok v' w' ∧ Appended w w' e size v v' (n + m) (xs ++ news) := by
 obtain ⟨hl, a, c, rfl, hmc, hcm, hnone, hcell⟩ := hx
 cases a with
 | none =>
  obtain ⟨rfl, rfl⟩ := hnone rfl
  obtain rfl : news = [] := List.eq_nil_of_length_eq_zero (by simpa using hl)
  rcases hown.2 with ⟨rfl, rfl⟩ | ⟨g, cap, cur, rfl, hb, hg, hn1, hn2, hcs, htk⟩
  ·
   refine ⟨.slice none 0 0, w, ?_, by simpa using hown, Mod.refl _ _, fun k hk => .inl hk, ⟨_, _, rfl⟩, fun _ _ _ _ _ => Mod.refl _ _⟩
   simp [Builtin.append_, run_underlying ht, Go.sizeOf, typeInfo, hi, Builtin.lenOf, Builtin.firstCells]
  ·
   refine ⟨.slice (some ⟨g, 0, none⟩) n cap, w, ?_, by simpa using hown, Mod.refl _ _, fun k hk => .inl hk, ⟨_, _, rfl⟩, fun _ _ _ _ _ => Mod.refl _ _⟩
   simp [Builtin.append_, run_underlying ht, Go.sizeOf, typeInfo, hi, Builtin.lenOf, hn1, Builtin.firstCells, storeCells]
 | some ad =>
  obtain ⟨hspot, hc⟩ := hcell ad rfl
  obtain ⟨v', w', hr, ho, hgr, _⟩ := run_append_own (P := P) w 0 t ty e i z size bytes ht hi hz hsize hby hzs hsz v n xs hown ad m c news hl hc h1 h63 hbytes (Nat.zero_le _)
  have key : (∀ k, v'.ownBlock = some k → v.ownBlock = some k ∨ w.heap.size ≤ k) ∧ (∀ a n' c, v = .slice a n' c → (c < n + m ∨ n + m = n') → Mod (fun _ => False) w w') := by
   rcases hown.2 with ⟨rfl, rfl⟩ | ⟨g, cap, cur, rfl, hb, hg, hn1, hn2, hcs, htk⟩
   ·
    obtain ⟨v2, w2, hr2, ho2, hg2, _⟩ := run_append_own (P := P) w w.heap.size t ty e i z size bytes ht hi hz hsize hby hzs hsz (.slice none 0 0) 0 xs ⟨hown.1, .inl ⟨rfl, rfl⟩⟩ ad m c news hl hc h1 h63 hbytes (Nat.le_refl _)
    rw [hr] at hr2
    cases hr2
    exact ⟨fun k hk => .inr (ho2.lt k hk).1, fun _ _ _ _ _ => (Mod.ofGrown hg2).mono (fun k _ h => by cases h)⟩
   ·
    by_cases hroom : n + m ≤ cap
    ·
     subst hsize
     have hfit : n * i.size + news.length ≤ cur.size := by rw [hl, hcs, ← Nat.add_mul]; exact Nat.mul_le_mul_right _ hroom
     have hr2 := run_append_room (P := P) w t ty e i ht hi g n cap cur hg ad m c news hl hc h1 hroom hfit
     rw [hr] at hr2
     cases hr2
     refine ⟨fun k hk => .inl hk, fun a n' c' he hor => ?_⟩
     cases he
     have hm0 : m = 0 := by omega
     subst hm0
     obtain rfl : news = [] := List.eq_nil_of_length_eq_zero (by simpa using hl)
     have e1 : (List.take (n * i.size) cur.toList ++ [] ++ List.drop (n * i.size + ([] : List Value).length) cur.toList).toArray = cur := by
      rw [List.append_nil, List.length_nil, Nat.add_zero, List.take_append_drop, Array.toArray_toList]
     rw [e1, setRow_self w g cur e (0, 0) hg]
     exact Mod.refl _ _
    ·
     obtain ⟨v2, w2, hr2, ho2, hg2⟩ := run_append_arg_grows (P := P) w t ty e i z size bytes ht hi hz hsize hby hzs hsz ⟨g, 0, none⟩ n cap xs hown.1 (hown.cells (g := g) rfl) ad m c news hl hc (by omega) h63 hbytes
     rw [hr] at hr2
     cases hr2
     exact ⟨fun k hk => .inr (ho2.lt k hk).1, fun _ _ _ _ _ => (Mod.ofGrown hg2).mono (fun k _ h => by cases h)⟩
  exact ⟨v', w', hr, ho, Mod.ofGrown hgr, key.1, own_form ho, key.2⟩

theorem wpList_append_any {P : Program} {w : World} {ops : Array Oper} {rest : List Oper} {o : Oper} {a : Act} {Q : Exit → Act → World → Prop} (hgd : o.guard = none) (s x : Operand) (t : TypeId)
  (ho : o.op = .call { callee := .builtin .append, args := #[s, x], argTypes := #[t, t] })
  (e : TypeId) (i : TypeInfo) (z : Value) (size bytes : Nat) (ht : P.underlying t = some (.slice e)) (hi : P.info? e = some i) (hz : i.zero = some z)
  (hsize : i.size = size) (hby : i.bytes = bytes) (hzs : z.cells.size = size) (hsz : 0 < size)
  (v : Value) (n : Nat) (xs : List Value) (hs : a.eval s = v) (hown : w.ownsRow 0 e size v n xs)
  (xv : Value) (m : Nat) (news : List Value) (hx : a.eval x = xv) (hrd : Rd w size xv m news) (h1 : ∀ u ∈ news, u.oneCell' = true)
  (h63 : n + m ≤ maxLen) (hbytes : (n + m) * bytes ≤ 140737488355328)
  (h : ∀ v' w', Appended w w' e size v v' (n + m) (xs ++ news) → wpList P ops Q rest (a.put o.dst v') w') : wpList P ops Q (o :: rest) a w := by
 refine wpList_plain hgd fun K hK' => ?_
 obtain ⟨v', w', hrun, hap⟩ := run_append_any (P := P) w t o.type e i z size bytes ht hi hz hsize hby hzs hsz v n xs hown xv m news hrd h1 h63 hbytes
 unfold Oper.wp
 simp [execOp, ho, resolve, invoke, builtin, hs, hx, hrun, Result.andThen]
 exact hK' _ _ (h v' w' hap)

theorem step_append_any {P : Program} {ops : Array Oper} {o : Oper} {a : Act} {w : World} {K : Act → World → Prop} {Q : Exit → Act → World → Prop} {E : Prop} (hgd : o.guard = none) (s x : Operand) (t : TypeId)
  (ho : o.op = .call { callee := .builtin .append, args := #[s, x], argTypes := #[t, t] })
  (e : TypeId) (i : TypeInfo) (z : Value) (size bytes : Nat) (ht : P.underlying t = some (.slice e)) (hi : P.info? e = some i) (hz : i.zero = some z)
  (hsize : i.size = size) (hby : i.bytes = bytes) (hzs : z.cells.size = size) (hsz : 0 < size)
  (v : Value) (n : Nat) (xs : List Value) (hs : a.eval s = v) (hown : w.ownsRow 0 e size v n xs)
  (xv : Value) (m : Nat) (news : List Value) (hx : a.eval x = xv) (hrd : Rd w size xv m news) (h1 : ∀ u ∈ news, u.oneCell' = true)
  (h63 : n + m ≤ maxLen) (hbytes : (n + m) * bytes ≤ 140737488355328)
  (h : ∀ v' w', Appended w w' e size v v' (n + m) (xs ++ news) → K (a.put o.dst v') w') : if Region.wanted o (yielded ops a.tmps) = true then Oper.wp P o a w K Q else E := by
 have hw : Region.wanted o (yielded ops a.tmps) = true := by simp [Region.wanted, hgd]
 rw [if_pos hw]
 obtain ⟨v', w', hrun, hap⟩ := run_append_any (P := P) w t o.type e i z size bytes ht hi hz hsize hby hzs hsz v n xs hown xv m news hrd h1 h63 hbytes
 unfold Oper.wp
 simp [execOp, ho, resolve, invoke, builtin, hs, hx, hrun, Result.andThen]
 exact h v' w' hap

theorem Rd.many {w : World} (T : TypeId) (xs : List Value) (g n : Nat) (hg : g = w.heap.size) (hn : xs.length = n) (hm : n ≤ 1000000000) : Rd (w.alloc (.cells xs.toArray T)) 1 (.slice (some ⟨g, 0, none⟩) n n) n xs := by
 subst hg
 refine ⟨by omega, some ⟨w.heap.size, 0, none⟩, n, rfl, Nat.le_refl _, by unfold maxLen; omega, fun h => (by cases h), fun ad had => ?_⟩
 cases had
 refine ⟨fun _ => rfl, fun j u hj => ?_⟩
 rw [Addr.add_lit, Nat.zero_add]
 exact (Blk.new w T xs).cell j hj

end Mile
namespace Mile
open Go Go.RowKit

def elemA (a : Option Addr) (j size : Nat) : Addr := (a.getD default).add (j * size)

theorem run_indexS {P : Program} (wx : World) (t e : TypeId) (i : TypeInfo) (size : Nat) (ht : P.underlying t = some (.slice e)) (hi : P.info? e = some i) (hs : i.size = size) (a : Option Addr) (n c j : Nat) (hj : j < n) (ha : a ≠ none) :
  (Instr.indexAt t (.slice a n c) (.int .i64 (j : Int))).run P wx = .ok (.pointer (some (elemA a j size))) wx := by
 cases a with
 | none => exact absurd rfl ha
 | some ad =>
  simp [Instr.indexAt, run_underlying ht, asIntOf, Go.sizeOf, typeInfo, hi, hs, elemA]
  intro h; omega

theorem Rd.some_ {w : World} {size n c : Nat} {a : Option Addr} {xs : List Value} (h : Rd w size (.slice a n c) n xs) (hn : 0 < n) : a ≠ none := by
 rintro rfl
 obtain ⟨_, a', c', he, _, _, h3, _⟩ := h
 cases he
 have := (h3 rfl).1
 omega

theorem Rd.elem {w : World} {n c j : Nat} {a : Option Addr} {xs : List Value} (h : Rd w 1 (.slice a n c) n xs) {u : Value} (hj : xs[j]? = some u) : w.cell? (elemA a j 1) = some u := by
 obtain ⟨hl, a', c', he, _, _, h3, h4⟩ := h
 cases he
 cases a with
 | none =>
  obtain ⟨rfl, _⟩ := h3 rfl
  have : xs = [] := List.eq_nil_of_length_eq_zero (by simpa using hl)
  subst this
  simp at hj
 | some ad => simpa [elemA] using (h4 ad rfl).2 j u hj

theorem Rd.place {w : World} {size n c j : Nat} {a : Option Addr} {xs : List Value} (h : Rd w size (.slice a n c) n xs) (hj : j < n) : ∃ b o, elemA a j size = ⟨b, o, none⟩ ∧ (Value.slice a n c).ownBlock = some b := by
 obtain ⟨hl, a', c', he, _, _, h3, h4⟩ := h
 cases he
 cases a with
 | none => have := (h3 rfl).1; omega
 | some ad =>
  have hs := (h4 ad rfl).1 (by omega)
  obtain ⟨b, o, sp⟩ := ad
  simp at hs; subst hs
  refine ⟨b, o + j * size, ?_, rfl⟩
  simp only [elemA, Option.getD_some]
  rw [Addr.add_lit]

theorem Rd.elemN {w : World} {size n c j : Nat} {a : Option Addr} {xs : List Value} (h : Rd w size (.slice a n c) n xs) {b o : Nat} (hb : elemA a j size = ⟨b, o, none⟩) (i : Nat) {u : Value} (hj : xs[j * size + i]? = some u) : w.cell? ⟨b, o + i, none⟩ = some u := by
 obtain ⟨hl, a', c', he, _, _, h3, h4⟩ := h
 cases he
 cases a with
 | none =>
  obtain ⟨rfl, _⟩ := h3 rfl
  have : xs = [] := List.eq_nil_of_length_eq_zero (by simpa using hl)
  subst this
  simp at hj
 | some ad =>
  have hc := (h4 ad rfl).2 _ u hj
  have hs : ad.spot = none := by
   refine (h4 ad rfl).1 ?_
   rcases Nat.eq_zero_or_pos n with e | e
   ·
    subst e
    rw [Nat.zero_mul] at hl
    rw [List.eq_nil_of_length_eq_zero hl] at hj
    simp at hj
   ·
    exact e
  obtain ⟨b', o', sp⟩ := ad
  simp at hs; subst hs
  simp only [elemA, Option.getD_some] at hb
  rw [Addr.add_lit] at hb
  cases hb
  rw [Addr.add_lit] at hc
  rw [show o' + j * size + i = o' + (j * size + i) by omega]
  exact hc

theorem own_empty (w : World) (T : TypeId) (size g : Nat) (hg : g = w.heap.size) : (w.alloc (.cells #[] T)).ownsRow 0 T size (.slice (some ⟨g, 0, none⟩) 0 0) 0 [] := by
 subst hg; exact World.ownsRow_made w #[] 0 (Nat.zero_le _) (Nat.zero_le _) (by simp)

def zrow (z : Value) (n : Nat) : Array Value := madeCells #[z] n
theorem zrow_toList (z : Value) (n : Nat) : (zrow z n).toList = List.replicate n z := toList_madeCells_one z n

theorem run_makeS {P : Program} (t e : TypeId) (i : TypeInfo) (z : Value) (ht : P.underlying t = some (.slice e)) (hi : P.info? e = some i) (hz : i.zero = some z) (hc : z.cells = #[z]) (hs : i.size = 1) (n : Nat)
  (hbytes : i.bytes * n ≤ 281474976710656) (h63 : n ≤ 1000000000) (wx : World) :
  (Instr.makeSlice t (.int .i64 (n : Int)) (.int .i64 (n : Int))).run P wx = .ok (.slice (some ⟨wx.heap.size, 0, none⟩) n n) (wx.alloc (.cells (zrow z n) e)) := by
 have hb' : (i.bytes : Int) * (n : Int) ≤ 281474976710656 := by
  have h : ((i.bytes * n : Nat) : Int) ≤ 281474976710656 := by omega
  rwa [Int.natCast_mul] at h
 have hr := run_make (P := P) (w := wx) t e i z ht hi hz .i64 .i64 n n (by omega) (Int.le_refl _) hb' (by omega)
 simp only [Int.toNat_natCast, hs, Nat.mul_one] at hr
 rw [hr, hc]; rfl

theorem own_zrow (w : World) (e : TypeId) (z : Value) (n g : Nat) (hg : g = w.heap.size) (hn : n ≤ 1000000000) : (w.alloc (.cells (zrow z n) e)).ownsRow 0 e 1 (.slice (some ⟨g, 0, none⟩) n n) n (List.replicate n z) := by
 subst hg
 have h := World.ownsRow_lit (base := 0) (e := e) (size := 1) w (zrow z n) n (Nat.zero_le _) (by unfold maxLen; omega) (by unfold zrow; rw [Nat.mul_one]; exact size_madeCells _ _)
 rwa [zrow_toList] at h

theorem Appended.modOld {W0 w w' : World} {e : TypeId} {size : Nat} {v v' : Value} {n' : Nat} {ys : List Value} (h : Appended w w' e size v v' n' ys) (hM : Mod (fun _ => False) W0 w) (hv : ∀ k, v.ownBlock = some k → W0.heap.size ≤ k) : Mod (fun _ => False) W0 w' :=
 hM.trans h.mod (fun _ _ e => e) (fun i hi e => by have := hv i e; omega)
theorem Appended.low {B : Nat} {w w' : World} {e : TypeId} {size : Nat} {v v' : Value} {n' : Nat} {ys : List Value} (h : Appended w w' e size v v' n' ys) (hB : B ≤ w.heap.size) (hv : ∀ k, v.ownBlock = some k → B ≤ k) : ∀ k, v'.ownBlock = some k → B ≤ k := fun k hk => by
 rcases h.row k hk with h | h
 ·
  exact hv k h
 ·
  omega
theorem low_lit {g B n c : Nat} (h : B ≤ g) : ∀ k, (Value.slice (some ⟨g, 0, none⟩) n c).ownBlock = some k → B ≤ k := fun k hk => by
 have : g = k := Option.some.inj hk
 omega

def Aft (w w' : World) (F F' : Nat → Prop) : Prop := Mod F w w' ∧ ∀ k, F' k → F k ∨ w.heap.size ≤ k

theorem Aft.refl (w : World) (F : Nat → Prop) : Aft w w F F := ⟨Mod.refl _ _, fun _ e => .inl e⟩
theorem Aft.trans {a b c : World} {F G H : Nat → Prop} (h : Aft a b F G) (k : Aft b c G H) : Aft a c F H :=
 ⟨h.1.trans k.1 (fun _ _ e => e) (fun i hi e => (h.2 i e).elim id (fun h' => absurd hi (by omega))), fun i e => (k.2 i e).elim (h.2 i) (fun h' => .inr (by have := h.1.size; omega))⟩
theorem Aft.ofMod {w w' : World} {F : Nat → Prop} (h : Mod F w w') : Aft w w' F F := ⟨h, fun _ e => .inl e⟩

theorem Rd.litN {w : World} (T : TypeId) (size : Nat) (xs : List Value) (fz : Nat × Nat) (g n : Nat) (hg : g = w.heap.size) (hn : xs.length = n * size) (hm : n ≤ 1000000000) : Rd (w.alloc (.cells xs.toArray T fz)) size (.slice (some ⟨g, 0, none⟩) n n) n xs := by
 subst hg
 refine ⟨hn, some ⟨w.heap.size, 0, none⟩, n, rfl, Nat.le_refl _, by unfold maxLen; omega, fun h => (by cases h), fun ad had => ?_⟩
 cases had
 refine ⟨fun _ => rfl, fun j u hj => ?_⟩
 rw [Addr.add_lit, Nat.zero_add]
 have h := heap_alloc_new w (.cells xs.toArray T fz)
 unfold World.cell?; rw [h]; simp [hj]
theorem Rd.lit {w : World} (T : TypeId) (xs : List Value) (fz : Nat × Nat) (g n : Nat) (hg : g = w.heap.size) (hn : xs.length = n) (hm : n ≤ 1000000000) : Rd (w.alloc (.cells xs.toArray T fz)) 1 (.slice (some ⟨g, 0, none⟩) n n) n xs :=
 Rd.litN T 1 xs fz g n hg (by omega) hm
theorem Mod.drewN (F : Nat → Prop) (w : World) : ∀ n, Mod F w (w.drewN n) := fun _ => ⟨rfl, rfl, rfl, Nat.le_refl _, fun _ _ _ => rfl⟩
end Mile
namespace Mile
open Go Go.RowKit

theorem heap_size_alloc (w : World) (o : Obj) : (World.alloc w o).heap.size = w.heap.size + 1 := by simp

def Ev (P : World → Prop) (w : World) : Prop := ∀ W, Mod (fun _ => False) w W → P W
theorem Mod.of2 {a b c : World} (h : Mod (fun _ => False) a b) (k : Mod (fun _ => False) b c) : Mod (fun _ => False) a c := h.trans k (fun _ _ e => e) (fun _ _ e => e)
theorem Ev.at {P : World → Prop} {w W : World} (h : Ev P w) (m : Mod (fun _ => False) w W) : P W := h W m
theorem Ev.now {P : World → Prop} {w : World} (h : Ev P w) : P w := h w (Mod.refl _ _)
theorem Ev.step {P : World → Prop} {w w' : World} (h : Ev P w) (m : Mod (fun _ => False) w w') : Ev P w' := fun W k => h W (m.of2 k)
theorem Ev.drew {P : World → Prop} {w : World} (h : Ev P w) : Ev P (World.drew w) := h.step (Mod.drew _ _)
theorem Ev.and {P Q : World → Prop} {w : World} (k : Ev Q w) (h : Ev P w) : Ev (fun W => Q W ∧ P W) w := fun W m => ⟨k W m, h W m⟩
theorem Ev.mod (w : World) : Ev (Mod (fun _ => False) w) w := fun _ m => m
theorem Ev.blk {w : World} {b : Nat} {T : TypeId} {cs : List Value} (h : Blk w b T cs) : Ev (fun W => Blk W b T cs) w := fun _ m => h.keep m (fun e => e)
theorem Ev.rd {w : World} {size : Nat} {v : Value} {n : Nat} {xs : List Value} (h : Rd w size v n xs) : Ev (fun W => Rd W size v n xs) w := fun _ m => h.keep m (fun _ _ e => e)
theorem Ev.own {w : World} {base : Nat} {e : TypeId} {size : Nat} {v : Value} {n : Nat} {xs : List Value} (h : w.ownsRow base e size v n xs) : Ev (fun W => W.ownsRow base e size v n xs) w := fun _ m => Own.keep h m (fun _ _ e => e)
theorem Ev.cell {w : World} {p : Addr} {v : Value} (h : w.cell? p = some v) : Ev (fun W => W.cell? p = some v) w := fun _ m => m.cell h (fun e => e)
theorem Ev.imp {P Q : World → Prop} {w : World} (h : Ev P w) (k : ∀ W, P W → Q W) : Ev Q w := fun W m => k W (h W m)
theorem Ev.of {P : World → Prop} {w : World} (h : ∀ W, Mod (fun _ => False) w W → P W) : Ev P w := h
theorem rd1 {w : World} {n c : Nat} {a : Option Addr} {S : List Int} (h : Rd w 1 (.slice a n c) n (S.map (Value.int .i64))) (i : Nat) (hi : i < S.length) :
  ∃ b o, elemA a i 1 = ⟨b, o, none⟩ ∧ w.cell? ⟨b, o, none⟩ = some (.int .i64 S[i]) := by
 have hn : n = S.length := by have := h.1; simp at this; omega
 obtain ⟨b, o, hp, _⟩ := h.place (j := i) (by omega)
 exact ⟨b, o, hp, by have := h.elem (j := i) (u := .int .i64 S[i]) (by simp [hi]); rwa [hp] at this⟩
end Mile
namespace Mile
open Go Go.RowKit

section
variable {P : Program} {ops : Array Oper} {Q : Exit → Act → World → Prop} {md : Region.Mode}

def unlisted (listed : Array Bool) : Nat := listed.toList.count false

theorem unlisted_set {listed : Array Bool} {i : Nat} (h : listed.getD i true = false) : unlisted listed = unlisted (listed.setIfInBounds i true) + 1 := by
 have hlt : i < listed.size := by
  rcases Nat.lt_or_ge i listed.size with h' | h'
  ·
   exact h'
  ·
   simp [Array.getElem?_eq_none h'] at h
 have hv : listed.toList[i]'(by simpa using hlt) = false := by simpa [hlt] using h
 unfold unlisted
 rw [Array.toList_setIfInBounds]
 have hc := List.count_set (l := listed.toList) (a := true) (b := false) (i := i) (by simpa using hlt)
 rw [hv, show ((false : Bool) == false) = true from rfl, show ((true : Bool) == false) = false from rfl] at hc
 have hp : 0 < listed.toList.count false := List.count_pos_iff.2 (by rw [← hv]; exact List.getElem_mem _)
 simp only [if_true, Bool.false_eq_true, if_false, Nat.add_zero] at hc
 omega

theorem wpAny_inv {I : Array Bool → Act → World → Prop}
  (hstep : ∀ listed a w i, listed.size = ops.size → i ∈ Region.ready md ops listed → I listed a w → wpOp P ops Q i (fun a' w' => I (listed.setIfInBounds i true) a' w') a w)
  (hend : ∀ listed a w, listed.size = ops.size → Region.ready md ops listed = [] → I listed a w → Q .normal a w) :
  ∀ fuel listed a w, listed.size = ops.size → unlisted listed = fuel → I listed a w → wpAny P md ops Q fuel listed a w
 | 0, listed, a, w, hs, hu, h => by
  have hr : Region.ready md ops listed = [] := by
   cases hr : Region.ready md ops listed with
   | nil => rfl
   | cons x xs =>
    have := (mem_ready.1 (show x ∈ Region.ready md ops listed by rw [hr]; simp)).1
    have := unlisted_set this
    omega
  exact ⟨hr, hend _ _ _ hs hr h⟩
 | fuel + 1, listed, a, w, hs, hu, h =>
  ⟨fun hr => hend _ _ _ hs hr h, fun i hi =>
   wpOp_mono (fun a' w' h' => wpAny_inv hstep hend fuel _ a' w' (by simp [hs]) (by have := unlisted_set (mem_ready.1 hi).1; omega) h') (hstep _ _ _ _ hs hi h)⟩

def putAll (a : Act) : List Oper → Nat → (Nat → Value) → Act
 | [], _, _ => a
 | o :: r, k, vs => putAll (a.put o.dst (vs k)) r (k + 1) vs

def upd (vs : Nat → Value) (i : Nat) (v : Value) : Nat → Value := fun j => if j = i then v else vs j

def dstsApart : List Oper → Bool
 | [] => true
 | o :: r => (match o.dst with | none => true | some d => r.all fun p => p.dst != some d) && dstsApart r

theorem put_comm' {a : Act} {d e : Option Tmp} {u v : Value} (h : ∀ x, d = some x → e ≠ some x) : (a.put d u).put e v = (a.put e v).put d u := by
 cases d with
 | none => rfl
 | some x =>
  cases e with
  | none => rfl
  | some y =>
   have : x ≠ y := fun e => h x rfl (by rw [e])
   simp only [Act.put]
   rw [Array.setIfInBounds_comm _ _ this]

theorem putAll_put {a : Act} {e : Option Tmp} {v : Value} : ∀ (l : List Oper) (k : Nat) (vs : Nat → Value), (∀ x, e = some x → ∀ p ∈ l, p.dst ≠ some x) → (putAll a l k vs).put e v = putAll (a.put e v) l k vs := by
 intro l
 induction l generalizing a with
 | nil => intro k vs _; rfl
 | cons o r ih =>
  intro k vs h
  simp only [putAll]
  rw [ih _ _ (fun x hx p hp => h x hx p (by simp [hp])), put_comm' (fun x hx he => h x he o (by simp) hx)]

theorem putAll_congr {a : Act} : ∀ (l : List Oper) (k : Nat) (vs vs' : Nat → Value), (∀ j, k ≤ j → vs j = vs' j) → putAll a l k vs = putAll a l k vs' := by
 intro l
 induction l generalizing a with
 | nil => intro k vs vs' _; rfl
 | cons o r ih =>
  intro k vs vs' h
  simp only [putAll]
  rw [h k (Nat.le_refl _), ih _ _ _ (fun j hj => h j (by omega))]

theorem put_put {a : Act} {d : Option Tmp} {u v : Value} : (a.put d u).put d v = a.put d v := by
 cases d with
 | none => rfl
 | some x => simp [Act.put, Array.setIfInBounds_setIfInBounds]

theorem putAll_upd {a : Act} {v : Value} : ∀ (l : List Oper) (k i : Nat) (o : Oper) (vs : Nat → Value), dstsApart l = true → l[i]? = some o → (putAll a l k vs).put o.dst v = putAll a l k (upd vs (k + i) v) := by
 intro l
 induction l generalizing a with
 | nil => intro k i o vs _ h; simp at h
 | cons p r ih =>
  intro k i o vs hd h
  simp only [dstsApart, Bool.and_eq_true] at hd
  cases i with
  | zero =>
   simp at h; subst h
   simp only [putAll, Nat.add_zero]
   have e : upd vs k v k = v := by simp [upd]
   rw [e, putAll_congr r (k + 1) (upd vs k v) vs (fun j hj => by simp [upd]; omega), putAll_put]
   ·
    rw [put_put]
   ·
    intro x hx q hq
    have := hd.1
    rw [hx] at this
    have := List.all_eq_true.1 this q hq
    simpa using this
  | succ i =>
   simp at h
   simp only [putAll]
   rw [ih _ i o vs hd.2 h, show k + 1 + i = k + (i + 1) by omega]
   have e : upd vs (k + (i + 1)) v k = vs k := by simp [upd]
   rw [e]

def vs0 (a : Act) (l : List Oper) : Nat → Value := fun k => match (l[k]?).bind (·.dst) with | some d => a.tmps.getD d undef | none => undef

theorem put_same (a : Act) (d : Tmp) : a.put (some d) (a.tmps.getD d undef) = a := by
 cases a with
 | mk t f =>
  simp only [Act.put, Act.mk.injEq, and_true]
  apply Array.ext
  ·
   simp
  ·
   intro i h1 h2
   rw [Array.getElem_setIfInBounds]
   split
   ·
    rename_i h; subst h; simp [h2]
   ·
    rfl

theorem putAll_start (a : Act) : ∀ (l : List Oper) (k : Nat) (vs : Nat → Value), (∀ i o, l[i]? = some o → ∀ d, o.dst = some d → vs (k + i) = a.tmps.getD d undef) → putAll a l k vs = a := by
 intro l
 induction l with
 | nil => intro k vs _; rfl
 | cons o r ih =>
  intro k vs h
  have e : a.put o.dst (vs k) = a := by
   cases hd : o.dst with
   | none => rfl
   | some d => have := h 0 o rfl d hd; rw [Nat.add_zero] at this; rw [this]; exact put_same a d
  simp only [putAll, e]
  exact ih (k + 1) vs (fun i p hp d hd => by have := h (i + 1) p (by simpa using hp) d hd; rw [← this]; congr 1; omega)

def backB (md : Region.Mode) (ops : Array Oper) : Bool := (List.range ops.size).all fun i => match ops[i]? with | some o => o.after.all fun e => !Region.binds md e || decide (e.on < i) | none => true

def waits (md : Region.Mode) (ops : Array Oper) : Nat → Nat → Nat → Bool
 | 0, _, _ => false
 | f + 1, i, j => match ops[i]? with | some o => o.after.any fun e => Region.binds md e && (e.on == j || waits md ops f e.on j) | none => false

theorem listed_all {listed : Array Bool} (hb : backB md ops = true) (hs : listed.size = ops.size) (hr : Region.ready md ops listed = []) : ∀ i, i < ops.size → listed.getD i true = true := by
 intro i
 induction i using Nat.strongRecOn with
 | _ i ih =>
  intro hi
  cases h : listed.getD i true with
  | true => rfl
  | false =>
   have hb' := List.all_eq_true.1 hb i (List.mem_range.2 hi)
   rw [Array.getElem?_eq_getElem hi] at hb'
   have : i ∈ Region.ready md ops listed := by
    refine mem_ready.2 ⟨h, ops[i], Array.getElem?_eq_getElem hi, fun e he hbd => ?_⟩
    have h1 := Array.all_eq_true'.1 hb' e he
    simp only [hbd, Bool.not_true, Bool.false_or, decide_eq_true_eq] at h1
    have h2 := ih e.on h1 (by omega)
    have hlt : e.on < listed.size := by omega
    simp [hlt] at h2 ⊢; exact h2
   rw [hr] at this; cases this

structure Known (a0 : Act) (ops : Array Oper) (md : Region.Mode) (R : World → World → Prop) (w0 : World) (F : Nat → Value → World → Prop) (listed : Array Bool) (a : Act) (w : World) (vs : Nat → Value) : Prop where
 act : a = putAll a0 ops.toList 0 vs
 rel : R w0 w
 known : ∀ i, listed.getD i false = true → F i (vs i) w
 closed : ∀ i o, ops[i]? = some o → listed.getD i false = true → ∀ e ∈ o.after, Region.binds md e = true → listed.getD e.on false = true

theorem waits_listed {listed : Array Bool} (hcl : ∀ i o, ops[i]? = some o → listed.getD i false = true → ∀ e ∈ o.after, Region.binds md e = true → listed.getD e.on false = true) :
  ∀ (f i j : Nat), (∀ o, ops[i]? = some o → ∀ e ∈ o.after, Region.binds md e = true → listed.getD e.on false = true) → waits md ops f i j = true → listed.getD j false = true
 | 0, _, _, _, h => by cases h
 | f + 1, i, j, hi, h => by
  unfold waits at h
  split at h
  ·
   rename_i o ho
   obtain ⟨e, he, hb⟩ := Array.any_eq_true'.1 h
   simp only [Bool.and_eq_true, Bool.or_eq_true, beq_iff_eq] at hb
   have h1 := hi o ho e he hb.1
   rcases hb.2 with h2 | h2
   ·
    rw [← h2]; exact h1
   ·
    exact waits_listed hcl f e.on j (fun o' ho' e' he' hb' => hcl _ _ ho' h1 e' he' hb') h2
  ·
   cases h

def OpOk (P : Program) (ops : Array Oper) (Q : Exit → Act → World → Prop) (a0 : Act) (R : World → World → Prop) (w0 : World) (F : Nat → Value → World → Prop) (D : List Nat) (i : Nat) (o : Oper) : Prop :=
 ∀ (K : Act → World → Prop) (vs : Nat → Value) (w : World), R w0 w → (∀ j ∈ D, F j (vs j) w) → (∀ v w', F i v w' → R w w' → K ((putAll a0 ops.toList 0 vs).put o.dst v) w') →
  wpList P ops (Exit.then K Q) [o] (putAll a0 ops.toList 0 vs) w

def OpsOk (P : Program) (ops : Array Oper) (Q : Exit → Act → World → Prop) (a0 : Act) (R : World → World → Prop) (w0 : World) (F : Nat → Value → World → Prop) (D : Nat → List Nat) : Nat → List Oper → Prop
 | _, [] => True
 | k, o :: r => OpOk P ops Q a0 R w0 F (D k) k o ∧ OpsOk P ops Q a0 R w0 F D (k + 1) r

theorem OpsOk.at_ {a0 : Act} {R : World → World → Prop} {w0 : World} {F : Nat → Value → World → Prop} {D : Nat → List Nat} : ∀ (l : List Oper) (k : Nat), OpsOk P ops Q a0 R w0 F D k l → ∀ i o, l[i]? = some o → OpOk P ops Q a0 R w0 F (D (k + i)) (k + i) o := by
 intro l
 induction l with
 | nil => intro k _ i o h; simp at h
 | cons p r ih =>
  intro k h i o hi
  cases i with
  | zero => simp at hi; subst hi; exact h.1
  | succ i =>
   have := ih (k + 1) h.2 i o (by simpa using hi)
   rwa [show k + 1 + i = k + (i + 1) by omega] at this

theorem wpOp_of_list {K : Act → World → Prop} {i : Nat} {o : Oper} {a : Act} {w : World} (ho : ops[i]? = some o) (hw : wpList P ops (Exit.then K Q) [o] a w) : wpOp P ops Q i K a w := by
 unfold wpOp
 simp only [ho]
 unfold wpList at hw
 split
 ·
  rename_i hwant
  rw [if_pos hwant] at hw
  rcases hw with hw | ⟨h1, h2⟩
  ·
   left
   unfold Oper.wp at hw ⊢
   generalize (execOp a.eval o).run P w = r at hw
   cases r with
   | ok n w' =>
    cases n <;> simp only [Oper.upon] at hw ⊢ <;> first
     | exact hw
     | exact Calls.mono hw (fun e w'' he => by cases e <;> first | exact he | (obtain ⟨x, y, hxy⟩ := he; exact ⟨x, y, hxy⟩))
     | exact Rows.mono hw (fun _ _ he => he)
   | halt x w' => cases x <;> simp only [Oper.upon] at hw ⊢ <;> exact hw
  ·
   exact .inr ⟨h1, by obtain ⟨x, y, hxy⟩ := h2; exact ⟨x, y, hxy⟩⟩
 ·
  rename_i hwant
  rw [if_neg hwant] at hw
  exact hw

structure KnownU (a0 : Act) (ops : Array Oper) (md : Region.Mode) (R : World → World → Prop) (w0 : World) (F : Nat → Value → World → Prop) (C : Nat → Nat) (listed : Array Bool) (a : Act) (w : World) (vs : Nat → Value) : Prop where
 act : a = putAll a0 ops.toList 0 vs
 rel : R w0 w
 known : ∀ i, listed.getD i false = true → listed.getD (C i) false = false → F i (vs i) w
 closed : ∀ i o, ops[i]? = some o → listed.getD i false = true → ∀ e ∈ o.after, Region.binds md e = true → listed.getD e.on false = true

def stayB (md : Region.Mode) (ops : Array Oper) (C : Nat → Nat) (i j : Nat) : Bool := j != i && C j != i && !waits md ops ops.size i (C j) && !waits md ops ops.size j i

def OpOkU (P : Program) (ops : Array Oper) (Q : Exit → Act → World → Prop) (a0 : Act) (R : World → World → Prop) (w0 : World) (F : Nat → Value → World → Prop) (C : Nat → Nat) (D : List Nat) (i : Nat) (o : Oper) : Prop :=
 ∀ (K : Act → World → Prop) (vs : Nat → Value) (w : World), R w0 w → (∀ j ∈ D, F j (vs j) w) →
  (∀ v w', F i v w' → (∀ j u, stayB .any ops C i j = true → F j u w → F j u w') → R w w' → K ((putAll a0 ops.toList 0 vs).put o.dst v) w') →
  wpList P ops (Exit.then K Q) [o] (putAll a0 ops.toList 0 vs) w
def OpsOkU (P : Program) (ops : Array Oper) (Q : Exit → Act → World → Prop) (a0 : Act) (R : World → World → Prop) (w0 : World) (F : Nat → Value → World → Prop) (C : Nat → Nat) (D : Nat → List Nat) : Nat → List Oper → Prop
 | _, [] => True
 | k, o :: r => OpOkU P ops Q a0 R w0 F C (D k) k o ∧ OpsOkU P ops Q a0 R w0 F C D (k + 1) r

theorem OpsOkU.at_ {a0 : Act} {R : World → World → Prop} {w0 : World} {F : Nat → Value → World → Prop} {C : Nat → Nat} {D : Nat → List Nat} : ∀ (l : List Oper) (k : Nat), OpsOkU P ops Q a0 R w0 F C D k l → ∀ i o, l[i]? = some o → OpOkU P ops Q a0 R w0 F C (D (k + i)) (k + i) o := by
 intro l
 induction l with
 | nil => intro k _ i o h; simp at h
 | cons p r ih =>
  intro k h i o hi
  cases i with
  | zero => simp at hi; subst hi; exact h.1
  | succ i =>
   have := ih (k + 1) h.2 i o (by simpa using hi)
   rwa [show k + 1 + i = k + (i + 1) by omega] at this

theorem wp_region_use {id : Nat} {a0 : Act} {w0 : World} (R : World → World → Prop) (F : Nat → Value → World → Prop) (C : Nat → Nat) (D : Nat → List Nat) (last : Nat) (ol : Oper) (hol : ops[last]? = some ol) (hsz : ops.size = last + 1)
  (hm : P.follows .mixedOrders = true) (hdst : dstsApart ops.toList = true) (hback : backB .any ops = true)
  (hD : ((List.range last).all fun i => (D i).all fun j => waits .any ops ops.size i j && (C j == i || decide (last ≤ C j) || waits .any ops ops.size (C j) i)) = true)
  (hL : ((List.range last).all fun j => waits .any ops ops.size last j) = true)
  (hrefl : ∀ w, R w w) (htrans : ∀ w w' w'', R w w' → R w' w'' → R w w'')
  (hops : OpsOkU P ops Q a0 R w0.drew F C D 0 (ops.toList.take last))
  (hend : ∀ vs w, R w0.drew w → (∀ i, i < last → last ≤ C i → F i (vs i) w) → wpList P ops Q [ol] (putAll a0 ops.toList 0 vs) w) :
  (Code.region id ops true).wp P Q a0 w0 := by
 refine wp_region_any hm ?_
 have hsound : ∀ (listed : Array Bool) (i : Nat) (o : Oper), ops[i]? = some o → (∀ e ∈ o.after, Region.binds .any e = true → listed.getD e.on false = true) → (∀ i o, ops[i]? = some o → listed.getD i false = true → ∀ e ∈ o.after, Region.binds .any e = true → listed.getD e.on false = true) →
   ∀ j, waits .any ops ops.size i j = true → listed.getD j false = true := fun listed i o ho hdeps hcl j hj =>
  waits_listed hcl _ i j (fun o' ho' => by rw [ho] at ho'; cases ho'; exact hdeps) hj
 have key := wpAny_inv (P := P) (ops := ops) (Q := Q) (md := .any) (I := fun listed a w => (listed.getD last true = false ∧ ∃ vs, KnownU a0 ops .any R w0.drew F C listed a w vs) ∨ ((∀ i, i < ops.size → listed.getD i true = true) ∧ Q .normal a w))
  (fun listed a w i hs hi hI => by
   obtain ⟨hun, o, ho, hdeps⟩ := mem_ready.1 hi
   have hlt : i < ops.size := (Array.getElem?_eq_some_iff.1 ho).1
   have hunf : listed.getD i false = false := by
    have hil : i < listed.size := by omega
    simp [hil] at hun ⊢; exact hun
   rcases hI with ⟨hln, vs, hk⟩ | ⟨hall, _⟩
   ·
    by_cases hil : i = last
    ·
     subst hil
     rw [hol] at ho; cases ho
     have hothers : ∀ j, j < i → listed.getD j false = true := fun j hj => hsound listed i ol hol hdeps hk.closed j (List.all_eq_true.1 hL j (List.mem_range.2 hj))
     have hbig : ∀ j, i ≤ j → listed.getD j false = false := fun j hj => by
      rcases Nat.lt_or_ge j listed.size with h | h
      ·
       have : j = i := by omega
       subst this; exact hunf
      ·
       simp [Array.getElem?_eq_none h]
     have hw := hend vs w hk.rel (fun j hj hC => hk.known j (hothers j hj) (hbig _ hC))
     rw [hk.act]
     refine wpOp_of_list hol ?_
     have hfin : ∀ a' w', Q .normal a' w' → (((listed.setIfInBounds i true).getD i true = false ∧ ∃ vs, KnownU a0 ops .any R w0.drew F C (listed.setIfInBounds i true) a' w' vs) ∨ ((∀ j, j < ops.size → (listed.setIfInBounds i true).getD j true = true) ∧ Q .normal a' w')) := fun a' w' hq => by
      refine .inr ⟨fun j hj => ?_, hq⟩
      have hjs : j < listed.size := by omega
      by_cases hji : j = i
      ·
       subst hji; simp [hjs]
      ·
       rw [getD_set_ne true (Ne.symm hji)]
       have := hothers j (by omega)
       simp [hjs] at this ⊢; exact this
     unfold wpList at hw ⊢
     split
     ·
      rename_i hwant
      rw [if_pos hwant] at hw
      rcases hw with hw | ⟨h1, h2⟩
      ·
       left
       unfold Oper.wp at hw ⊢
       generalize (execOp (putAll a0 ops.toList 0 vs).eval ol).run P w = r at hw
       cases r with
       | ok n w' =>
        cases n <;> simp only [Oper.upon] at hw ⊢ <;> first
         | exact hfin _ _ hw
         | exact Calls.mono hw (fun e w'' he => by cases e <;> first | exact hfin _ _ he | exact he | (obtain ⟨x, y, hxy⟩ := he; exact ⟨x, y, hxy⟩))
         | exact Rows.mono hw (fun _ _ he => hfin _ _ he)
       | halt x w' => cases x <;> simp only [Oper.upon] at hw ⊢ <;> exact hw
      ·
       exact .inr ⟨h1, by obtain ⟨x, y, hxy⟩ := h2; exact ⟨x, y, hxy⟩⟩
     ·
      rename_i hwant
      rw [if_neg hwant] at hw
      exact hfin _ _ hw
    ·
     have hil' : i < last := by omega
     have htl : (ops.toList.take last)[i]? = some o := by rw [List.getElem?_take, if_pos hil']; simpa using ho
     have hok := hops.at_ (ops.toList.take last) 0 i o htl
     rw [Nat.zero_add] at hok
     have hDi : ∀ j ∈ D i, F j (vs j) w := fun j hj => by
      have h1 := List.all_eq_true.1 (List.all_eq_true.1 hD i (List.mem_range.2 hil')) j hj
      simp only [Bool.and_eq_true, Bool.or_eq_true, beq_iff_eq, decide_eq_true_eq] at h1
      refine hk.known j (hsound listed i o ho hdeps hk.closed j h1.1) ?_
      rcases h1.2 with (h2 | h2) | h2
      ·
       rw [h2]; exact hunf
      ·
       rcases Nat.lt_or_ge (C j) listed.size with h | h
       ·
        have : C j = last := by omega
        rw [this]
        have hll : last < listed.size := by omega
        simp [hll] at hln ⊢; exact hln
       ·
        simp [Array.getElem?_eq_none h]
      ·
       cases hc : listed.getD (C j) false with
       | false => rfl
       | true =>
        have hcl : C j < ops.size := by
         rcases Nat.lt_or_ge (C j) ops.size with h | h
         ·
          exact h
         ·
          rw [← hs] at h; simp [Array.getElem?_eq_none h] at hc
        have := hsound listed (C j) ops[C j] (Array.getElem?_eq_getElem hcl) (hk.closed _ _ (Array.getElem?_eq_getElem hcl) hc) hk.closed i h2
        rw [hunf] at this; cases this
     rw [hk.act]
     refine wpOp_of_list ho (hok _ vs w hk.rel hDi (fun v w' hv hst hR => .inl ⟨by rw [getD_set_ne true hil]; exact hln, upd vs i v, ?_, htrans _ _ _ hk.rel hR, fun j hj hC => ?_, fun j oj hoj hj e he hb => ?_⟩))
     ·
      have := putAll_upd (a := a0) (v := v) ops.toList 0 i o vs hdst (by simpa using ho)
      rw [this, Nat.zero_add]
     ·
      by_cases hji : j = i
      ·
       subst hji; simp only [upd, if_true]; exact hv
      ·
       rw [getD_set_ne false (Ne.symm hji)] at hj
       simp only [upd, if_neg hji]
       have hCi : C j ≠ i := fun e => by
        rw [e] at hC
        have hil : i < listed.size := by omega
        simp [hil] at hC
       rw [getD_set_ne false (Ne.symm hCi)] at hC
       refine hst j _ ?_ (hk.known j hj hC)
       unfold stayB
       simp only [Bool.and_eq_true, bne_iff_ne, ne_eq, Bool.not_eq_true']
       refine ⟨⟨⟨hji, hCi⟩, ?_⟩, ?_⟩
       ·
        cases hw : waits .any ops ops.size i (C j) with
        | false => rfl
        | true => rw [hsound listed i o ho hdeps hk.closed (C j) hw] at hC; cases hC
       ·
        cases hw : waits .any ops ops.size j i with
        | false => rfl
        | true =>
         have hjl : j < ops.size := by
          rcases Nat.lt_or_ge j ops.size with h | h
          ·
           exact h
          ·
           rw [← hs] at h; simp [Array.getElem?_eq_none h] at hj
         have := hsound listed j ops[j] (Array.getElem?_eq_getElem hjl) (hk.closed _ _ (Array.getElem?_eq_getElem hjl) hj) hk.closed i hw
         rw [hunf] at this; cases this
     ·
      by_cases hji : j = i
      ·
       subst hji
       rw [ho] at hoj; cases hoj
       exact getD_set_true (hdeps e he hb)
      ·
       rw [getD_set_ne false (Ne.symm hji)] at hj
       exact getD_set_true (hk.closed j oj hoj hj e he hb)
   ·
    rw [hall i hlt] at hun; cases hun)
  (fun listed a w hs hr hI => by
   rcases hI with ⟨hln, _⟩ | ⟨_, hq⟩
   ·
    have := listed_all hback hs hr last (by omega)
    rw [this] at hln; cases hln
   ·
    exact hq)
 refine key ops.size _ a0 _ (by simp) (by simp [unlisted]) (.inl ⟨by simp [hsz], vs0 a0 ops.toList, ?_, hrefl _, fun i hi => ?_, fun i o _ hi => ?_⟩)
 ·
  refine (putAll_start a0 ops.toList 0 _ (fun i o ho d hd => ?_)).symm
  rw [Nat.zero_add]; unfold vs0; rw [ho]; simp [hd]
 ·
  rcases Nat.lt_or_ge i ops.size with h | h <;> simp [h] at hi
 ·
  rcases Nat.lt_or_ge i ops.size with h | h <;> simp [h] at hi

structure KnownO (a0 : Act) (ops : Array Oper) (md : Region.Mode) (R : World → World → Prop) (w0 : World) (F : Nat → Value → World → Prop) (C : Nat → Nat) (I0 : World → Prop) (ci : Nat) (listed : Array Bool) (a : Act) (w : World) (vs : Nat → Value) : Prop where
 act : a = putAll a0 ops.toList 0 vs
 rel : R w0 w
 known : ∀ i, listed.getD i false = true → listed.getD (C i) false = false → F i (vs i) w
 closed : ∀ i o, ops[i]? = some o → listed.getD i false = true → ∀ e ∈ o.after, Region.binds md e = true → listed.getD e.on false = true
 init : listed.getD ci false = false → I0 w

def OpOkO (P : Program) (ops : Array Oper) (Q : Exit → Act → World → Prop) (a0 : Act) (R : World → World → Prop) (w0 : World) (F : Nat → Value → World → Prop) (C : Nat → Nat) (I0 : World → Prop) (ci : Nat) (D : List Nat) (i : Nat) (o : Oper) : Prop :=
 ∀ (K : Act → World → Prop) (vs : Nat → Value) (w : World), R w0 w → (∀ j ∈ D, F j (vs j) w) → (i = ci → I0 w) →
  (∀ v w', F i v w' → (∀ j u, stayB .any ops C i j = true → F j u w → F j u w') → (i ≠ ci → waits .any ops ops.size i ci = false → I0 w → I0 w') → R w w' → K ((putAll a0 ops.toList 0 vs).put o.dst v) w') →
  wpList P ops (Exit.then K Q) [o] (putAll a0 ops.toList 0 vs) w
def OpsOkO (P : Program) (ops : Array Oper) (Q : Exit → Act → World → Prop) (a0 : Act) (R : World → World → Prop) (w0 : World) (F : Nat → Value → World → Prop) (C : Nat → Nat) (I0 : World → Prop) (ci : Nat) (D : Nat → List Nat) : Nat → List Oper → Prop
 | _, [] => True
 | k, o :: r => OpOkO P ops Q a0 R w0 F C I0 ci (D k) k o ∧ OpsOkO P ops Q a0 R w0 F C I0 ci D (k + 1) r

theorem OpsOkO.at_ {a0 : Act} {R : World → World → Prop} {w0 : World} {F : Nat → Value → World → Prop} {C : Nat → Nat} {I0 : World → Prop} {ci : Nat} {D : Nat → List Nat} : ∀ (l : List Oper) (k : Nat), OpsOkO P ops Q a0 R w0 F C I0 ci D k l → ∀ i o, l[i]? = some o → OpOkO P ops Q a0 R w0 F C I0 ci (D (k + i)) (k + i) o := by
 intro l
 induction l with
 | nil => intro k _ i o h; simp at h
 | cons p r ih =>
  intro k h i o hi
  cases i with
  | zero => simp at hi; subst hi; exact h.1
  | succ i =>
   have := ih (k + 1) h.2 i o (by simpa using hi)
   rwa [show k + 1 + i = k + (i + 1) by omega] at this

end

theorem opsOkU_cons {P : Program} {ops : Array Oper} {Q : Exit → Act → World → Prop} {a0 : Act} {R : World → World → Prop} {w0 : World} {F : Nat → Value → World → Prop} {C : Nat → Nat} {D : Nat → List Nat} {k : Nat} {o : Oper} {r : List Oper}
  (h : OpOkU P ops Q a0 R w0 F C (D k) k o) (h' : OpsOkU P ops Q a0 R w0 F C D (k + 1) r) : OpsOkU P ops Q a0 R w0 F C D k (o :: r) := ⟨h, h'⟩
theorem opsOkU_nil {P : Program} {ops : Array Oper} {Q : Exit → Act → World → Prop} {a0 : Act} {R : World → World → Prop} {w0 : World} {F : Nat → Value → World → Prop} {C : Nat → Nat} {D : Nat → List Nat} {k : Nat} : OpsOkU P ops Q a0 R w0 F C D k [] := trivial
def factOf (L : List (Bool × (Value → World → Prop))) (i : Nat) : Value → World → Prop := (L.getD i (true, fun _ _ => True)).2
theorem fact_stays {L : List (Bool × (Value → World → Prop))} {R : World → World → Prop} (h : ∀ p ∈ L, ∀ v w w', p.2 v w → R w w' → p.2 v w') : ∀ i v w w', factOf L i v w → R w w' → factOf L i v w' := by
 intro i v w w' hv hR
 unfold factOf at *
 rcases Nat.lt_or_ge i L.length with hi | hi
 ·
  have e : L.getD i (true, fun _ _ => True) = L[i] := by simp [List.getD, hi]
  rw [e] at hv ⊢
  exact h _ (List.getElem_mem hi) _ _ _ hv hR
 ·
  have e : L.getD i (true, fun _ _ => True) = (true, fun _ _ => True) := by simp [List.getD, hi]
  rw [e]; trivial
theorem fact_solid {P : Array Oper} {C : Nat → Nat} {L : List (Bool × (Value → World → Prop))} (h : ∀ p ∈ L, p.1 = true → ∀ v w w', p.2 v w → p.2 v w') (i : Nat) (hb : ((List.range L.length).all fun j => !stayB .any P C i j || (L.getD j (true, fun _ _ => True)).1) = true) {w w' : World} :
  ∀ j u, stayB .any P C i j = true → factOf L j u w → factOf L j u w' := by
 intro j u hs hv
 unfold factOf at *
 rcases Nat.lt_or_ge j L.length with hj | hj
 ·
  have e : L.getD j (true, fun _ _ => True) = L[j] := by simp [List.getD, hj]
  have h1 := List.all_eq_true.1 hb j (List.mem_range.2 hj)
  rw [hs, e] at h1
  rw [e] at hv ⊢
  exact h _ (List.getElem_mem hj) (by simpa using h1) _ _ _ hv
 ·
  have e : L.getD j (true, fun _ _ => True) = (true, fun _ _ => True) := by simp [List.getD, hj]
  rw [e]; trivial

def Stable (R : World → World → Prop) (f : Value → World → Prop) : Prop := ∀ v w w', f v w → R w w' → f v w'
def IsV (x : Value) : Value → World → Prop := fun v _ => v = x
def NewRow (n : Nat) (xs : List Value) : Value → World → Prop := fun v W => ∃ p, v = .slice (some ⟨p, 0, none⟩) n n ∧ Rd W 1 v n xs

theorem stable_val {R : World → World → Prop} (x : Value) : Stable R (IsV x) := fun _ _ _ h _ => h
theorem stable_new {n : Nat} {xs : List Value} : Stable (Mod (fun _ => False)) (NewRow n xs) := fun _ _ _ ⟨p, h, hr⟩ hm => ⟨p, h, hr.keepA hm (fun _ _ e => e.elim)⟩
theorem stable_list {R : World → World → Prop} {L : List (Value → World → Prop)} (h : ∀ f ∈ L, Stable R f) : ∀ i v w w', (L.getD i (fun _ _ => True)) v w → R w w' → (L.getD i (fun _ _ => True)) v w' := by
 intro i v w w' hv hR
 rcases Nat.lt_or_ge i L.length with hi | hi
 ·
  have e : L.getD i (fun _ _ => True) = L[i] := by simp [List.getD, hi]
  rw [e] at hv ⊢
  exact h _ (List.getElem_mem hi) _ _ _ hv hR
 ·
  have e : L.getD i (fun _ _ => True) = fun _ _ => True := by simp [List.getD, hi]
  rw [e]; trivial
end Mile
namespace Mile
open Go Go.RowKit

def Shp (F : Nat → Prop) (w w' : World) : Prop := Mod F w w' ∧ ∀ b, F b → ∀ cur T, w.heap[b]? = some (.cells cur T (0, 0)) → ∃ cur', w'.heap[b]? = some (.cells cur' T (0, 0)) ∧ cur'.size = cur.size
theorem Shp.refl (F : Nat → Prop) (w : World) : Shp F w w := ⟨Mod.refl _ _, fun _ _ cur _ h => ⟨cur, h, rfl⟩⟩
theorem Shp.trans {F : Nat → Prop} {a b c : World} (h : Shp F a b) (k : Shp F b c) : Shp F a c :=
 ⟨h.1.trans k.1 (fun _ _ e => e) (fun _ _ e => e), fun x hx cur T hc => by
  obtain ⟨c1, h1, s1⟩ := h.2 x hx cur T hc
  obtain ⟨c2, h2, s2⟩ := k.2 x hx c1 T h1
  exact ⟨c2, h2, s2.trans s1⟩⟩
theorem Shp.drew {F : Nat → Prop} (w : World) : Shp F w w.drew := ⟨Mod.drew _ _, fun _ _ cur _ h => ⟨cur, h, rfl⟩⟩
def Room (w : World) (b : Nat) (T : TypeId) (k : Nat) : Prop := ∃ cur, w.heap[b]? = some (.cells cur T (0, 0)) ∧ k < cur.size
theorem Room.keep {F : Nat → Prop} {w w' : World} {b : Nat} {T : TypeId} {k : Nat} (h : Room w b T k) (s : Shp F w w') : Room w' b T k := by
 obtain ⟨cur, hc, hk⟩ := h
 by_cases hb : F b
 ·
  obtain ⟨c', h', e⟩ := s.2 b hb cur T hc
  exact ⟨c', h', by omega⟩
 ·
  exact ⟨cur, (s.1.block b (lt_of_block hc) hb).trans hc, hk⟩
theorem Room.cell {w : World} {b : Nat} {T : TypeId} {k : Nat} (h : Room w b T k) : ∃ v, w.cell? ⟨b, k, none⟩ = some v := by
 obtain ⟨cur, hc, hk⟩ := h
 exact ⟨cur[k], by rw [cell_of_row w b k cur T (0, 0) hc]; simp [hk]⟩
theorem Room.free {w : World} {b : Nat} {T : TypeId} {k : Nat} (h : Room w b T k) : w.frozen? ⟨b, k, none⟩ = false := by
 obtain ⟨cur, hc, hk⟩ := h
 exact frozen_of_row w b k cur T hc
theorem Room.lt {w : World} {b : Nat} {T : TypeId} {k : Nat} (h : Room w b T k) : b < w.heap.size := by obtain ⟨cur, hc, _⟩ := h; exact lt_of_block hc
theorem Shp.set {F : Nat → Prop} {w : World} {b : Nat} (hb : F b) (k : Nat) (u : Value) : Shp F w (w.setCell ⟨b, k, none⟩ u) := by
 refine ⟨Mod.setCell w _ u hb, fun x hx cur T hc => ?_⟩
 by_cases e : x = b
 ·
  subst e
  exact ⟨cur.setIfInBounds k u, heap_setCell_same w x k cur T u hc, by simp⟩
 ·
  exact ⟨cur, (heap_setCell_other w ⟨b, k, none⟩ x u (fun h => e h)).trans hc, rfl⟩
theorem Shp.mod {F : Nat → Prop} {w w' : World} (h : Shp F w w') : Mod F w w' := h.1
theorem Room.ofOwn {w : World} {base : Nat} {e : TypeId} {size n cap g : Nat} {xs : List Value} (h : w.ownsRow base e size (.slice (some ⟨g, 0, none⟩) n cap) n xs) (k : Nat) (hk : k < n * size) : Room w g e k := by
 rcases h.2 with ⟨h', _⟩ | ⟨g', cap', cur, h', _, hg, hn, _, hs, _⟩
 ·
  simp at h'
 ·
  simp only [Value.slice.injEq, Option.some.injEq, Addr.mk.injEq, and_true, true_and] at h'
  obtain ⟨rfl, rfl⟩ := h'
  exact ⟨cur, hg, by rw [hs]; exact Nat.lt_of_lt_of_le hk (Nat.mul_le_mul_right _ hn)⟩
theorem own_block {w : World} {base : Nat} {e : TypeId} {size n : Nat} {v : Value} {xs : List Value} (h : w.ownsRow base e size v n xs) (hn : 0 < n) : ∃ g c, v = .slice (some ⟨g, 0, none⟩) n c ∧ base ≤ g ∧ g < w.heap.size := by
 rcases h.2 with ⟨_, h0⟩ | ⟨g, cap, cur, rfl, hb, hg, _⟩
 ·
  omega
 ·
  exact ⟨g, cap, rfl, hb, lt_of_block hg⟩
theorem Mod.old {F : Nat → Prop} {a b c : World} (h : Mod (fun _ => False) a b) (k : Mod F b c) (hF : ∀ i, F i → a.heap.size ≤ i) : Mod (fun _ => False) a c :=
 h.trans k (fun _ _ e => e) (fun i hi e => by have := hF i e; omega)

def Tow (b : Nat) (T : TypeId) (tgt : List Value) (w w' : World) : Prop := Mod (fun k => k = b) w w' ∧ ∀ cur, w.heap[b]? = some (.cells cur T (0, 0)) → ∃ cur', w'.heap[b]? = some (.cells cur' T (0, 0)) ∧ cur'.size = cur.size ∧ ∀ i, i < cur.size → cur'[i]? = cur[i]? ∨ cur'[i]? = tgt[i]?
theorem Tow.refl (b : Nat) (T : TypeId) (tgt : List Value) (w : World) : Tow b T tgt w w := ⟨Mod.refl _ _, fun cur h => ⟨cur, h, rfl, fun _ _ => .inl rfl⟩⟩
theorem Tow.trans {b : Nat} {T : TypeId} {tgt : List Value} {x y z : World} (h : Tow b T tgt x y) (k : Tow b T tgt y z) : Tow b T tgt x z :=
 ⟨h.1.trans k.1 (fun _ _ e => e) (fun _ _ e => e), fun cur hc => by
  obtain ⟨c1, h1, s1, p1⟩ := h.2 cur hc
  obtain ⟨c2, h2, s2, p2⟩ := k.2 c1 h1
  refine ⟨c2, h2, s2.trans s1, fun i hi => ?_⟩
  rcases p2 i (by omega) with e | e
  ·
   rw [e]; exact p1 i hi
  ·
   exact .inr e⟩
theorem Tow.set {b : Nat} {T : TypeId} {tgt : List Value} {w : World} (k : Nat) (u : Value) (hu : tgt[k]? = some u) : Tow b T tgt w (w.setCell ⟨b, k, none⟩ u) := by
 refine ⟨Mod.setCell (F := fun k => k = b) w ⟨b, k, none⟩ u rfl, fun cur hc => ⟨cur.setIfInBounds k u, heap_setCell_same w b k cur T u hc, by simp, fun i hi => ?_⟩⟩
 by_cases e : k = i
 ·
  subst e; exact .inr (by rw [hu]; simp [hi])
 ·
  exact .inl (by rw [Array.getElem?_setIfInBounds_ne e])
theorem Tow.there {b : Nat} {T : TypeId} {tgt : List Value} {w w' : World} (h : Tow b T tgt w w') {k : Nat} {u : Value} (r : Room w b T k) (hu : tgt[k]? = some u) (hc : w.cell? ⟨b, k, none⟩ = some u) : w'.cell? ⟨b, k, none⟩ = some u := by
 obtain ⟨cur, hcur, hk⟩ := r
 obtain ⟨c', h', s, p⟩ := h.2 cur hcur
 rw [cell_of_row w b k cur T (0, 0) hcur] at hc
 rw [cell_of_row w' b k c' T (0, 0) h']
 rcases p k hk with e | e
 ·
  rw [← hc]; exact e
 ·
  rw [← hu]; exact e
theorem Tow.done {b base : Nat} {T : TypeId} {tgt : List Value} {w w' : World} {size n cap : Nat} {xs : List Value} (h : Tow b T tgt w w') (ho : w.ownsRow base T size (.slice (some ⟨b, 0, none⟩) n cap) n xs) (hl : tgt.length = xs.length)
  (hs : ∀ k, k < n * size → xs[k]? = tgt[k]? ∨ w'.cell? ⟨b, k, none⟩ = tgt[k]?) : w'.ownsRow base T size (.slice (some ⟨b, 0, none⟩) n cap) n tgt := by
 refine ⟨by rw [hl]; exact ho.1, .inr ?_⟩
 rcases ho.2 with ⟨h', _⟩ | ⟨g', cap', cur, h', hb, hg, hn, hm, hsz, htk⟩
 ·
  simp at h'
 ·
  simp only [Value.slice.injEq, Option.some.injEq, Addr.mk.injEq, and_true, true_and] at h'
  obtain ⟨rfl, rfl⟩ := h'
  obtain ⟨c', hc', s, p⟩ := h.2 cur hg
  refine ⟨b, cap, c', rfl, hb, hc', hn, hm, by omega, ?_⟩
  have hle : n * size ≤ cap * size := Nat.mul_le_mul_right _ hn
  have hx : xs.length = n * size := ho.1
  refine List.ext_getElem? fun i => ?_
  rw [List.getElem?_take]
  split
  ·
   rename_i hi
   have e1 : c'.toList[i]? = c'[i]? := by simp
   rw [e1]
   rcases p i (by omega) with e | e
   ·
    rcases hs i hi with e2 | e2
    ·
     rw [e, ← e2, ← htk, List.getElem?_take, if_pos hi]; simp
    ·
     rw [← e2, cell_of_row w' b i c' T (0, 0) hc']
   ·
    exact e
  ·
   rename_i hi
   rw [List.getElem?_eq_none (by omega)]
theorem Tow.ofMod {b : Nat} {T : TypeId} {tgt : List Value} {w w' : World} (h : Mod (fun _ => False) w w') : Tow b T tgt w w' :=
 ⟨h.mono (fun _ _ e => e.elim), fun cur hc => ⟨cur, (h.block b (lt_of_block hc) (fun e => e)).trans hc, rfl, fun _ _ => .inl rfl⟩⟩
theorem Shp.ofMod {F : Nat → Prop} {w w' : World} (h : Mod (fun _ => False) w w') : Shp F w w' :=
 ⟨h.mono (fun _ _ e => e.elim), fun b _ cur _ hc => ⟨cur, (h.block b (lt_of_block hc) (fun e => e)).trans hc, rfl⟩⟩
theorem Tow.blk {b : Nat} {T : TypeId} {tgt xs : List Value} {w w' : World} (h : Tow b T tgt w w') (hb : Blk w b T xs) (hl : xs.length = tgt.length) (hc : ∀ k, k < tgt.length → w'.cell? ⟨b, k, none⟩ = tgt[k]?) : Blk w' b T tgt := by
 obtain ⟨c', h', s, _⟩ := h.2 xs.toArray hb
 have e : c' = tgt.toArray := by
  refine Array.ext_getElem? fun i => ?_
  by_cases hi : i < tgt.length
  ·
   have := hc i hi
   rw [cell_of_row w' b i c' T (0, 0) h'] at this
   rw [this]; simp
  ·
   have h1 : c'.size = tgt.length := by rw [s]; simpa using hl
   rw [Array.getElem?_eq_none (by omega)]; simp; omega
 unfold Blk; rw [h', e]
theorem Ev.room {w : World} {b : Nat} {T : TypeId} {k : Nat} (h : Room w b T k) : Ev (fun W => Room W b T k) w := fun _ m => h.keep (F := fun _ => False) ⟨m, fun _ e => e.elim⟩
end Mile
namespace Mile
open Go Go.RowKit
def EvF (F : Nat → Prop) (P : World → Prop) (w : World) : Prop := ∀ W, Mod F w W → P W
theorem Mod.ofF {F : Nat → Prop} {a b c : World} (h : Mod F a b) (k : Mod F b c) : Mod F a c := h.trans k (fun _ _ e => e) (fun _ _ e => e)
theorem EvF.now {F : Nat → Prop} {P : World → Prop} {w : World} (h : EvF F P w) : P w := h w (Mod.refl _ _)
theorem EvF.at {F : Nat → Prop} {P : World → Prop} {w W : World} (h : EvF F P w) (m : Mod F w W) : P W := h W m
theorem EvF.step {F : Nat → Prop} {P : World → Prop} {w w' : World} (h : EvF F P w) (m : Mod F w w') : EvF F P w' := fun W k => h W (m.ofF k)
theorem EvF.drew {F : Nat → Prop} {P : World → Prop} {w : World} (h : EvF F P w) : EvF F P (World.drew w) := h.step (Mod.drew _ _)
theorem EvF.and {F : Nat → Prop} {P Q : World → Prop} {w : World} (k : EvF F Q w) (h : EvF F P w) : EvF F (fun W => Q W ∧ P W) w := fun W m => ⟨k W m, h W m⟩
theorem EvF.mod (F : Nat → Prop) (w : World) : EvF F (Mod F w) w := fun _ m => m
theorem EvF.blk {F : Nat → Prop} {w : World} {b : Nat} {T : TypeId} {cs : List Value} (h : Blk w b T cs) (hp : ¬ F b) : EvF F (fun W => Blk W b T cs) w := fun _ m => h.keep m hp
theorem EvF.size {F : Nat → Prop} {w : World} {n : Nat} (h : n ≤ w.heap.size) : EvF F (fun W => n ≤ W.heap.size) w := fun _ m => Nat.le_trans h m.size
end Mile
namespace Mile
open Go Go.RowKit
theorem rd_cap {w : World} {s n c : Nat} {a : Option Addr} {xs : List Value} (h : Rd w s (.slice a n c) n xs) : n ≤ c := by
 obtain ⟨_, a', c', he, h1, _⟩ := h; cases he; exact h1
end Mile
