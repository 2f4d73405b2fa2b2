/- The document's own answer for heaps (milepostref4's Heap), over the same sorted list. -/
import Derived.Test.YtjjedebjbgpimaaGreatKWH
import Derived.Deep.DeepCutAuto
import Derived.Deep.CutBlock
import Derived.Deep.RegionHeld3
namespace Go.Proofs.YtjjedebjbgpimaaGreat
open Go.RowKit Mile Go.Proofs.YtjjedebjbgpimaaGreat.WH
set_option maxRecDepth 100000

theorem MH.infoK : (Tryz.prog.info? 173).map (fun i => (i.zero, i.size, i.bytes)) = some (some (.agg #[.int .i64 0, .int .i64 0]), 2, 16) := by kernel_rfl

def MHO (w : World) (q : Nat) (S : List It) (F : Nat → Prop) : Prop :=
  ∃ v, Blk w q 171 [v] ∧ Rd w 2 v S.length (S.flatMap cellsIt) ∧ F q ∧ (∀ k, v.ownBlock = some k → F k ∧ k ≠ q) ∧ (∀ k, F k → k < w.heap.size) ∧ ∀ x ∈ S, okIt x

theorem MHO.keep {w w' : World} {q : Nat} {S : List It} {F G : Nat → Prop} (h : MHO w q S F) (hm : Mod G w w') (hd : ∀ k, F k → ¬ G k) : MHO w' q S F := by
  obtain ⟨v, h1, h2, h3, h4, h5, h6⟩ := h
  exact ⟨v, h1.keep hm (hd q h3), h2.keep hm (fun k hk => hd k (h4 k hk).1), h3, h4, fun k hk => Nat.lt_of_lt_of_le (h5 k hk) hm.size, h6⟩
theorem MHO.new (w : World) (q : Nat) (hq : q = w.heap.size) : MHO (w.alloc (.cells #[.slice none 0 0] 171)) q [] (fun k => k = q) := by
  subst hq
  exact ⟨.slice none 0 0, Blk.new w _ [.slice none 0 0], Rd.nil _ _, rfl, by simp [Value.ownBlock], fun k hk => by subst hk; simp, by simp⟩

theorem rd_it {w : World} {n c : Nat} {a : Option Addr} {S : List It} (h : Rd w 2 (.slice a n c) n (S.flatMap cellsIt)) (i : Nat) (hi : i < S.length) :
    w.cell? (elemA a i 2) = some (.int .i64 (g S i).1) ∧ ∃ b o, elemA a i 2 = ⟨b, o, none⟩ ∧ w.cell? ⟨b, o, none⟩ = some (.int .i64 (g S i).1) ∧ w.cell? ⟨b, o + 1, none⟩ = some (.int .i64 (g S i).2) := by
  have key : ∀ (l : List It) (i : Nat) (hi : i < l.length), (l.flatMap cellsIt)[i * 2]? = some (.int .i64 l[i].1) ∧ (l.flatMap cellsIt)[i * 2 + 1]? = some (.int .i64 l[i].2) := by
    intro l
    induction l with
    | nil => intro i hi; simp at hi
    | cons x l ih =>
      intro i hi
      cases i with
      | zero => simp [cellsIt]
      | succ i =>
        have := ih i (by simpa using hi)
        simp only [List.flatMap_cons, List.getElem_cons_succ]
        rw [show (i + 1) * 2 = 2 + i * 2 by omega, show 2 + i * 2 + 1 = 2 + (i * 2 + 1) by omega]
        rw [List.getElem?_append_right (by simp [cellsIt]), List.getElem?_append_right (by simp [cellsIt])]
        simpa [cellsIt] using this
  obtain ⟨k1, k2⟩ := key S i hi
  rw [← g_eq S i hi] at k1 k2
  have hn : n = S.length := by have := h.1; rw [len_it] at this; omega
  obtain ⟨b, o, hp, _⟩ := h.place (j := i) (by omega)
  have e1 := h.elemN hp 0 (by rw [Nat.add_zero]; exact k1)
  have e2 := h.elemN hp 1 k2
  exact ⟨by rw [hp]; simpa using e1, b, o, hp, by simpa using e1, e2⟩

set_option maxHeartbeats 1000000 in
theorem find_any (q : Nat) (w : World) (S : List It) (F : Nat → Prop) (h : MHO w q S F) (id : Int) :
    Calls Tryz.prog 147 #[.pointer (some ⟨q, 0, none⟩), .int .i64 id] w fun e w' => w = w' ∧ ((e = .returned (.int .i64 (-1)) ∧ keyS S id = none) ∨ ∃ i : Nat, i < S.length ∧ e = .returned (.int .i64 i) ∧ (g S i).1 = id) := by
  obtain ⟨iK, hiK, zK, sK, bK⟩ := info_parts MH.infoK
  obtain ⟨v, h1, h2, h3, h4, h5, h6⟩ := h
  obtain ⟨a, c, hv⟩ : ∃ a c, v = .slice a S.length c := by obtain ⟨_, a, c, hv, _⟩ := h2; exact ⟨a, c, hv⟩
  subst hv
  have hm : S.length ≤ 9223372036854775807 := by obtain ⟨_, a', c', he, h1, h2, _⟩ := h2; cases he; unfold maxLen at h2; omega
  have c0 := h1.cell 0 rfl
  go_enter Tryz.func147, Tryz.ntmps147
  go_wp2_with fail
  go_loop [5] (fun i => ∃ k : Nat, k ≤ S.length ∧ i = .int .i64 k ∧ ∀ j, j < k → (g S j).1 ≠ id) (fun i => S.length - (intOf i).toNat)
  case atStart => exact ⟨0, Nat.zero_le _, rfl, fun j hj => by omega⟩
  case round =>
    obtain ⟨k, hk, rfl, hno⟩ := hrel
    have HNO := Lib.hid hno
    clear hno
    by_cases hlt : k < S.length
    · obtain ⟨_, b, o, hp, e1, e2⟩ := rd_it h2 k hlt
      have hix := fun wx => run_indexS (P := Tryz.prog) wx 169 173 iK 2 Tryz.underlying169 hiK sK a S.length c k hlt (h2.some_ (by omega))
      rw [hp] at hix
      clear hp
      obtain ⟨y, hy⟩ : ∃ y, (g S k).1 = y := ⟨_, rfl⟩
      rw [hy] at e1
      have HY := Lib.hid hy
      clear hy
      by_cases he : y = id
      · have eb : (y == id) = true := by simpa using he
        have HE := Lib.hid he
        clear he
        go_wp2
        go_ret
        exact ⟨rfl, .inr ⟨k, hlt, rfl, by rw [HY.out, HE.out]⟩⟩
      · have eb : (y == id) = false := by simpa using he
        have HE := Lib.hid he
        clear he
        go_wp2
        go_round
        case rel => exact ⟨k + 1, hlt, by go_num, fun j hj => by
          by_cases e : j = k
          · rw [e, HY.out]; exact HE.out
          · exact HNO.out j (by omega)⟩
        case measure => simp [intOf]; omega
    · obtain rfl : k = S.length := by omega
      have hnone : keyS S id = none := keyS_none fun x hx => by
        obtain ⟨i, hi, rfl⟩ := mem_g hx
        exact HNO.out i hi
      have HN := Lib.hid hnone
      clear hnone
      go_wp2
      go_ret
      exact ⟨rfl, .inl ⟨rfl, HN.out⟩⟩

theorem dropS_erase {S : List It} {i : Nat} (hi : i < S.length) (h : Ids S) (id : Int) (he : (g S i).1 = id) : S.take i ++ S.drop (i + 1) = dropS S id := by
  subst he
  rw [← List.eraseIdx_eq_take_drop_succ]
  unfold dropS
  have h1 : Ids S := h
  clear h
  induction S generalizing i with
  | nil => simp at hi
  | cons x S ih =>
    unfold Ids at h1
    rw [List.map_cons, List.pairwise_cons] at h1
    cases i with
    | zero =>
      rw [List.eraseIdx_cons_zero, List.filter_cons_of_neg (by simp [g])]
      rw [List.filter_eq_self.2]
      intro y hy
      have := h1.1 y.1 (List.mem_map_of_mem hy)
      simpa [g] using Ne.symm this
    | succ i =>
      have hi' : i < S.length := by simpa using hi
      have hg : g (x :: S) (i + 1) = g S i := by simp [g]
      have hx : x.1 ≠ (g S i).1 := h1.1 _ (List.mem_map_of_mem (g_mem hi'))
      rw [List.eraseIdx_cons_succ, hg, List.filter_cons_of_pos (by simpa using hx), ih hi' h1.2]

theorem flat_takeIt : ∀ (l : List It) (n : Nat), (l.flatMap cellsIt).take (n * 2) = (l.take n).flatMap cellsIt
  | [], n => by simp
  | x :: l, 0 => by simp
  | x :: l, n + 1 => by
    have h2 : (cellsIt x).length = 2 := rfl
    rw [List.take_succ_cons, List.flatMap_cons, List.flatMap_cons, show (n + 1) * 2 = 2 + n * 2 by omega, List.take_append, h2, List.take_of_length_le (by omega), show 2 + n * 2 - 2 = n * 2 by omega, flat_takeIt l n]
theorem flat_dropIt : ∀ (l : List It) (n : Nat), (l.flatMap cellsIt).drop (n * 2) = (l.drop n).flatMap cellsIt
  | [], n => by simp
  | x :: l, 0 => by simp
  | x :: l, n + 1 => by
    have h2 : (cellsIt x).length = 2 := rfl
    rw [List.drop_succ_cons, List.flatMap_cons, show (n + 1) * 2 = 2 + n * 2 by omega, List.drop_append, h2, List.drop_eq_nil_of_le (by omega), List.nil_append, show 2 + n * 2 - 2 = n * 2 by omega, flat_dropIt l n]

theorem MHO.stored {w w2 : World} {q n : Nat} {v0 v' : Value} {T : List It} {F : Nat → Prop} (hq : F q) (hlt : q < w.heap.size) (hM : Mod (fun _ => False) w w2) (hb : Blk w2 q 171 [v0])
    (ho : w2.ownsRow 0 173 2 v' n (T.flatMap cellsIt)) (low : ∀ k, v'.ownBlock = some k → w.heap.size ≤ k) (ok : ∀ x ∈ T, okIt x) :
    ∃ F', MHO (w2.setCell ⟨q, 0, none⟩ v') q T F' ∧ Aft w (w2.setCell ⟨q, 0, none⟩ v') F F' := by
  have hset : Mod (fun k => k = q) w2 (w2.setCell ⟨q, 0, none⟩ v') := Mod.setCell _ _ _ rfl
  have hn : n = T.length := by have := ho.1; rw [len_it] at this; omega
  subst hn
  refine ⟨fun k => k = q ∨ v'.ownBlock = some k, ⟨v', hb.set 0 v', (Rd.ofOwn ho).keep hset (fun k hk e => by have := low k hk; omega), .inl rfl, fun k hk => ⟨.inr hk, fun e => by have := low k hk; omega⟩, ?_, ok⟩,
    (hM.mono (fun _ _ e => e.elim) : Mod F w w2).thenSet _ _ (fun _ => hq), fun k hk => hk.elim (fun e => .inl (by rw [e]; exact hq)) (fun e => .inr (low k e))⟩
  rintro k (rfl | hk)
  · have := hM.size; simp; omega
  · simpa using Own.lt ho hk

def PlaceOf (T : List It) (x : It) (v : Value) : Prop := ∃ k : Nat, v = .int .i64 k ∧ k ≤ T.length ∧ (∀ j, j < k → bef (g T j) x = true) ∧ (k = T.length ∨ bef (g T k) x = false)

theorem place_ins {T : List It} {x : It} {k : Nat} (hk : k ≤ T.length) (h1 : ∀ j, j < k → bef (g T j) x = true) (h2 : k = T.length ∨ bef (g T k) x = false) : T.take k ++ [x] ++ T.drop k = insS T x := by
  unfold insS
  induction T generalizing k with
  | nil => simp
  | cons y T ih =>
    cases k with
    | zero =>
      have hb : bef y x = false := by
        rcases h2 with h2 | h2
        · simp at h2
        · exact h2
      simp [List.takeWhile_cons, List.dropWhile_cons, hb]
    | succ k =>
      have hb : bef y x = true := h1 0 (by omega)
      simp only [List.takeWhile_cons, List.dropWhile_cons, hb, if_true]
      have := ih (k := k) (by simpa using hk) (fun j hj => h1 (j + 1) (by omega)) (h2.imp (fun e => by simpa using e) (fun e => e))
      rw [List.take_succ_cons, List.drop_succ_cons, List.cons_append, List.cons_append, List.cons_append, this]

def Lowered (q : Nat) (S : List It) (id key : Int) (F : Nat → Prop) (w wx : World) : Prop :=
  ∃ F', MHO wx q (dropS S id) F' ∧ Aft w wx F F' ∧ pushS S id key = (true, insS (dropS S id) (id, key))

def rlow_F (w : World) (q i c : Nat) (a : Option Addr) (S : List It) : List (Bool × (Value → World → Prop)) :=
  [(true, IsV (.pointer (some ⟨q, 0, none⟩))),
   (false, fun v W => ∃ g, v = .slice (some ⟨g, 0, none⟩) 0 0 ∧ w.heap.size ≤ g ∧ W.ownsRow 0 173 2 v 0 []),
   (true, IsV (.pointer (some ⟨q, 0, none⟩))),
   (true, IsV (.pointer (some ⟨q, 0, none⟩))),
   (true, IsV (.pointer (some ⟨q, 0, none⟩))),
   (true, IsV (.slice a S.length c)),
   (true, IsV (.int .i64 i)),
   (true, IsV (.slice a i c)),
   (false, fun v W => ∃ a c, v = .slice a (i) c ∧ (∀ k, v.ownBlock = some k → w.heap.size ≤ k) ∧ W.ownsRow 0 173 2 v (i) ((S.flatMap cellsIt).take (i * 2))),
   (true, IsV (.pointer (some ⟨q, 0, none⟩))),
   (true, IsV (.pointer (some ⟨q, 0, none⟩))),
   (true, IsV (.pointer (some ⟨q, 0, none⟩))),
   (true, IsV (.slice a S.length c)),
   (true, IsV (.int .i64 i)),
   (true, IsV (.int .i64 ((i : Int) + 1))),
   (true, IsV (.slice (dropA a c (i + 1) 2) (S.length - (i + 1)) (c - (i + 1)))),
   (false, fun v W => ∃ a c, v = .slice a (i + (S.length - (i + 1))) c ∧ (∀ k, v.ownBlock = some k → w.heap.size ≤ k) ∧ W.ownsRow 0 173 2 v (i + (S.length - (i + 1))) ((S.flatMap cellsIt).take (i * 2) ++ (S.flatMap cellsIt).drop ((i + 1) * 2))),
   (true, IsV (.pointer (some ⟨q, 0, none⟩))),
   (true, IsV (.pointer (some ⟨q, 0, none⟩)))]
def rlow_D : List (List Nat) := [[], [], [], [2], [3], [4], [], [5, 6], [1, 7], [], [9], [10], [11], [], [13], [12, 14], [8, 15], [0], [17]]
def rlow_C : List Nat := [1000, 8, 1000, 1000, 1000, 1000, 1000, 1000, 16, 1000, 1000, 1000, 1000, 1000, 1000, 1000, 1000, 1000, 1000]

def rins_F (wc : World) (q k c : Nat) (a : Option Addr) (T : List It) (id key : Int) : List (Bool × (Value → World → Prop)) :=
  [(true, IsV (.pointer (some ⟨q, 0, none⟩))),
   (false, fun v W => ∃ g, v = .slice (some ⟨g, 0, none⟩) 0 0 ∧ wc.heap.size ≤ g ∧ W.ownsRow 0 173 2 v 0 []),
   (true, IsV (.pointer (some ⟨q, 0, none⟩))),
   (true, IsV (.pointer (some ⟨q, 0, none⟩))),
   (true, IsV (.pointer (some ⟨q, 0, none⟩))),
   (true, IsV (.slice a T.length c)),
   (true, IsV (.int .i64 k)),
   (true, IsV (.slice a k c)),
   (false, fun v W => ∃ a c, v = .slice a (k) c ∧ (∀ k, v.ownBlock = some k → wc.heap.size ≤ k) ∧ W.ownsRow 0 173 2 v (k) ((T.flatMap cellsIt).take (k * 2))),
   (true, IsV (.int .i64 id)),
   (true, IsV (.int .i64 key)),
   (true, IsV (.agg #[.int .i64 id, .int .i64 key])),
   (false, fun v W => ∃ p, v = .slice (some ⟨p, 0, none⟩) 1 1 ∧ Rd W 2 v 1 [.int .i64 id, .int .i64 key]),
   (false, fun v W => ∃ a c, v = .slice a (k + 1) c ∧ (∀ k, v.ownBlock = some k → wc.heap.size ≤ k) ∧ W.ownsRow 0 173 2 v (k + 1) ((T.flatMap cellsIt).take (k * 2) ++ [.int .i64 id, .int .i64 key])),
   (true, IsV (.pointer (some ⟨q, 0, none⟩))),
   (true, IsV (.pointer (some ⟨q, 0, none⟩))),
   (true, IsV (.pointer (some ⟨q, 0, none⟩))),
   (true, IsV (.slice a T.length c)),
   (true, IsV (.int .i64 k)),
   (true, IsV (.slice (dropA a c k 2) (T.length - k) (c - k))),
   (false, fun v W => ∃ a c, v = .slice a (k + 1 + (T.length - k)) c ∧ (∀ k, v.ownBlock = some k → wc.heap.size ≤ k) ∧ W.ownsRow 0 173 2 v (k + 1 + (T.length - k)) ((T.flatMap cellsIt).take (k * 2) ++ [.int .i64 id, .int .i64 key] ++ (T.flatMap cellsIt).drop (k * 2))),
   (true, IsV (.pointer (some ⟨q, 0, none⟩))),
   (true, IsV (.pointer (some ⟨q, 0, none⟩)))]
def rins_D : List (List Nat) := [[], [], [], [2], [3], [4], [], [5, 6], [1, 7], [], [], [9, 10], [11], [8, 12], [], [14], [15], [16], [], [17, 18], [13, 19], [0], [21]]
def rins_C : List Nat := [1000, 8, 1000, 1000, 1000, 1000, 1000, 1000, 13, 1000, 1000, 1000, 13, 20, 1000, 1000, 1000, 1000, 1000, 1000, 1000, 1000, 1000]

theorem grown_lit {w w' : World} {g n' : Nat} {v' : Value} {ys : List Value} (ho : w.ownsRow 0 173 2 (.slice (some ⟨g, 0, none⟩) 0 0) 0 []) (h : Appended w w' 173 2 (.slice (some ⟨g, 0, none⟩) 0 0) v' n' ys) : Mod (fun _ => False) w w' :=
  h.still _ _ _ rfl (by omega)

def RPushPost (q : Nat) (S : List It) (id key : Int) (F : Nat → Prop) (w : World) (e : Ending) (w' : World) : Prop :=
  e = .returned (.bool (pushS S id key).1) ∧ ∃ F', MHO w' q (pushS S id key).2 F' ∧ Aft w w' F F'

set_option maxHeartbeats 4000000 in
set_option maxRecDepth 100000 in
theorem rpush_any (q : Nat) (w : World) (S : List It) (F : Nat → Prop) (h : MHO w q S F) (hs : Srt S) (hids : Ids S) (hS : S.length ≤ 900000000) (id key : Int) (hid : (Lit.int .i64 id).wf = true) (hkey : (Lit.int .i64 key).wf = true) :
    Calls Tryz.prog 131 #[.pointer (some ⟨q, 0, none⟩), .int .i64 id, .int .i64 key] w (RPushPost q S id key F w) := by
  obtain ⟨iK, hiK, zK, sK, bK⟩ := info_parts MH.infoK
  have hfind := find_any q w S F h id
  have hO := h
  obtain ⟨v, h1, h2, h3, h4, h5, h6⟩ := h
  obtain ⟨a, c, hv⟩ : ∃ a c, v = .slice a S.length c := by obtain ⟨_, a, c, hv, _⟩ := h2; exact ⟨a, c, hv⟩
  subst hv
  go_enter Tryz.func131, Tryz.ntmps131
  go_wp2_with fail
  refine hfind.mono ?_
  rintro e w' ⟨rfl, hcase⟩
  obtain ⟨r, he, hc2⟩ : ∃ r : Int, e = .returned (.int .i64 r) ∧ ((r = -1 ∧ keyS S id = none) ∨ ∃ i : Nat, i < S.length ∧ r = i ∧ (g S i).1 = id) := by
    rcases hcase with ⟨h, h'⟩ | ⟨i, hi, h, h'⟩
    · exact ⟨_, h, .inl ⟨rfl, h'⟩⟩
    · exact ⟨_, h, .inr ⟨i, hi, rfl, h'⟩⟩
  subst he
  clear hcase
  go_upto_if 13 with fail
  go_cut [8] (fun _ wx => Lowered q S id key F w wx)
  case first =>
    rcases hc2 with ⟨rfl, hnone⟩ | ⟨i, hi, rfl, hgi⟩
    · have hP : pushS S id key = (true, insS (dropS S id) (id, key)) := by
        have : dropS S id = S := List.filter_eq_self.2 (fun x hx => by simpa using keyS_none_inv hnone x hx)
        simp [pushS, hnone, this]
      have hD : dropS S id = S := List.filter_eq_self.2 (fun x hx => by simpa using keyS_none_inv hnone x hx)
      have HL : Hid (Lowered q S id key F w w) := Lib.hid ⟨F, by rw [hD]; exact hO, Aft.refl _ _, hP⟩
      clear hP hD hnone
      go_wp2_with fail
      go_meet
      exact HL.out
    · obtain ⟨_, b, o, hp, e1, e2⟩ := rd_it h2 i hi
      have hix := fun wx => run_indexS (P := Tryz.prog) wx 169 173 iK 2 Tryz.underlying169 hiK sK a S.length c i hi (h2.some_ (by omega))
      rw [hp] at hix
      clear hp
      have c0 := h1.cell 0 rfl
      obtain ⟨y, hy⟩ : ∃ y, (g S i).2 = y := ⟨_, rfl⟩
      rw [hy] at e2
      have hkeyS : keyS S id = some y := by rw [keyS_some hids (g_mem hi) hgi, hy]
      clear hy
      by_cases hle : y ≤ key
      · have hP : pushS S id key = (false, S) := by simp [pushS, hkeyS, hle]
        have HP := Lib.hid hP
        clear hP hkeyS
        go_wp2
        go_ret
        exact ⟨by rw [HP.out]; rfl, F, by rw [HP.out]; exact hO, Aft.refl _ _⟩
      · have hP : pushS S id key = (true, insS (dropS S id) (id, key)) := by simp [pushS, hkeyS, hle]
        have HP := Lib.hid hP
        have hde := dropS_erase hi hids id hgi
        have HDE := Lib.hid hde
        have HGI := Lib.hid hgi
        have hlt : key < y := by omega
        clear hP hkeyS hle hde hgi
        have rT := fun wx => run_takeS (P := Tryz.prog) wx 169 173 iK Tryz.underlying169 hiK a S.length c i (by obtain ⟨_, a', c', he, h', _⟩ := h2; cases he; omega)
        have rD := fun wx => run_dropS (P := Tryz.prog) wx 169 173 iK 2 Tryz.underlying169 hiK sK a S.length c (i + 1) (by omega)
        have hw1 : ((i + 1 : Nat) : Int) = (i : Int) + 1 := by omega
        rw [hw1] at rD
        clear hw1
        have hrT := h2.take (show i ≤ S.length by omega)
        have hrD := h2.drop (show i + 1 ≤ S.length by omega)
        have hnew : ∀ u ∈ S.flatMap cellsIt, u.oneCell' = true := by
          intro u hu
          obtain ⟨x, _, hx⟩ := List.mem_flatMap.1 hu
          simp [cellsIt] at hx
          rcases hx with rfl | rfl <;> rfl
        have hcT : ∀ u ∈ (S.flatMap cellsIt).take (i * 2), u.oneCell' = true := fun u hu => hnew u (List.mem_of_mem_take hu)
        have hcD : ∀ u ∈ (S.flatMap cellsIt).drop ((i + 1) * 2), u.oneCell' = true := fun u hu => hnew u (List.mem_of_mem_drop hu)
        clear hnew
        have l1 : 0 + i ≤ maxLen := by unfold maxLen; omega
        have l2 : (0 + i) * 16 ≤ 140737488355328 := by omega
        have l3 : i + (S.length - (i + 1)) ≤ maxLen := by unfold maxLen; omega
        have l4 : (i + (S.length - (i + 1))) * 16 ≤ 140737488355328 := by omega
        have hs1 : IntKind.i64.wrap ((i : Int) + 1) = (i : Int) + 1 := IntWalk.i64_in _ (by omega)
        have cA := (h1.alloc (.cells #[] 173)).cell 0 rfl
        go_wp2_with fail
        have HQ : Hid (∀ W, Mod (fun k => w.heap.size ≤ k) (World.drew w) W → W.cell? ⟨q, 0, none⟩ = some (.slice a S.length c)) := Lib.hid fun W hm => hm.cell (h1.drew.cell 0 rfl) (by have := h1.lt; show ¬ w.heap.size ≤ q; omega)
        have HMOD : Hid (∀ W, Mod (fun k => w.heap.size ≤ k) (World.drew w) W → Mod (fun _ => False) w W) := Lib.hid fun W hm => (Mod.drew _ _).trans hm (fun _ _ e => e) (fun i hi e => by show False; omega)
        have HrT := Lib.hid rT
        have HrD := Lib.hid rD
        clear rT rD
        have HST : ∀ (ix : Nat) (vx : Value) (wx wy : World), factOf (rlow_F w q i c a S) ix vx wx → Mod (fun _ => False) wx wy → factOf (rlow_F w q i c a S) ix vx wy := by
          refine fact_stays ?_
          intro f hf
          simp only [rlow_F, List.mem_cons, List.not_mem_nil, or_false] at hf
          rcases hf with rfl | rfl | rfl | rfl | rfl | rfl | rfl | rfl | rfl | rfl | rfl | rfl | rfl | rfl | rfl | rfl | rfl | rfl | rfl <;> first | exact stable_val _ | exact stable_new | exact (fun _ _ _ ⟨g, h1, h2, h3⟩ hm => ⟨g, h1, h2, Own.keep h3 hm (fun _ _ e => e)⟩) | exact (fun _ _ _ ⟨a, c, h1, h2, h3⟩ hm => ⟨a, c, h1, h2, Own.keep h3 hm (fun _ _ e => e)⟩)
        have HSO : ∀ px ∈ (rlow_F w q i c a S), px.1 = true → ∀ (vx : Value) (wx wy : World), px.2 vx wx → px.2 vx wy := by
          intro f hf
          simp only [rlow_F, List.mem_cons, List.not_mem_nil, or_false] at hf
          rcases hf with rfl | rfl | rfl | rfl | rfl | rfl | rfl | rfl | rfl | rfl | rfl | rfl | rfl | rfl | rfl | rfl | rfl | rfl | rfl <;> first | exact fun _ _ _ _ h => h | (intro h; cases h)
        refine wp_region_use (Mod (fun k => w.heap.size ≤ k)) (factOf (rlow_F w q i c a S)) (fun i => rlow_C.getD i 1000) (fun i => rlow_D.getD i []) 19 _ rfl rfl (by kernel_rfl) (by kernel_rfl) (by kernel_rfl) (by kernel_rfl) (by kernel_rfl) (fun _ => Mod.refl _ _)
          (fun _ _ _ h k => h.trans k (fun _ _ e => e) (fun _ _ e => e)) ?_ ?_
        · refine opsOkU_cons ?_ ?_
          · intro K vs W hR hD hK
            clear hD
            simp only [putAll, Nat.zero_add, Nat.reduceAdd, Act.put, List.setIfInBounds_toArray, List.set_cons_succ, List.set_cons_zero] at hK ⊢
            go_wp2
            exact hK _ _ rfl (fun _ _ _ h => h) (Mod.refl _ _)
          refine opsOkU_cons ?_ ?_
          · intro K vs W hR hD hK
            clear hD
            simp only [putAll, Nat.zero_add, Nat.reduceAdd, Act.put, List.setIfInBounds_toArray, List.set_cons_succ, List.set_cons_zero] at hK ⊢
            go_wp2
            exact hK _ _ ⟨_, rfl, hR.size, own_empty _ _ _ _ rfl⟩ (fun j u _ h => HST j u _ _ h (Mod.alloc _ _ _)) (Mod.alloc _ _ _)
          refine opsOkU_cons ?_ ?_
          · intro K vs W hR hD hK
            clear hD
            simp only [putAll, Nat.zero_add, Nat.reduceAdd, Act.put, List.setIfInBounds_toArray, List.set_cons_succ, List.set_cons_zero] at hK ⊢
            go_wp2
            exact hK _ _ rfl (fun _ _ _ h => h) (Mod.refl _ _)
          refine opsOkU_cons ?_ ?_
          · intro K vs W hR hD hK
            have d2 : vs 2 = .pointer (some ⟨q, 0, none⟩) := hD 2 (by decide)
            clear hD
            simp only [putAll, Nat.zero_add, Nat.reduceAdd, Act.put, List.setIfInBounds_toArray, List.set_cons_succ, List.set_cons_zero] at hK ⊢
            generalize vs 2 = v2 at hK d2 ⊢
            subst d2
            go_wp2
            exact hK _ _ rfl (fun _ _ _ h => h) (Mod.refl _ _)
          refine opsOkU_cons ?_ ?_
          · intro K vs W hR hD hK
            have d3 : vs 3 = .pointer (some ⟨q, 0, none⟩) := hD 3 (by decide)
            clear hD
            simp only [putAll, Nat.zero_add, Nat.reduceAdd, Act.put, List.setIfInBounds_toArray, List.set_cons_succ, List.set_cons_zero] at hK ⊢
            generalize vs 3 = v3 at hK d3 ⊢
            subst d3
            go_wp2
            exact hK _ _ rfl (fun _ _ _ h => h) (Mod.refl _ _)
          refine opsOkU_cons ?_ ?_
          · intro K vs W hR hD hK
            have d4 : vs 4 = .pointer (some ⟨q, 0, none⟩) := hD 4 (by decide)
            clear hD
            simp only [putAll, Nat.zero_add, Nat.reduceAdd, Act.put, List.setIfInBounds_toArray, List.set_cons_succ, List.set_cons_zero] at hK ⊢
            generalize vs 4 = v4 at hK d4 ⊢
            subst d4
            have c0q := HQ.out _ hR
            go_wp2
            exact hK _ _ rfl (fun _ _ _ h => h) (Mod.refl _ _)
          refine opsOkU_cons ?_ ?_
          · intro K vs W hR hD hK
            clear hD
            simp only [putAll, Nat.zero_add, Nat.reduceAdd, Act.put, List.setIfInBounds_toArray, List.set_cons_succ, List.set_cons_zero] at hK ⊢
            go_wp2
            exact hK _ _ rfl (fun _ _ _ h => h) (Mod.refl _ _)
          refine opsOkU_cons ?_ ?_
          · intro K vs W hR hD hK
            have d5 : vs 5 = .slice a S.length c := hD 5 (by decide)
            have d6 : vs 6 = .int .i64 i := hD 6 (by decide)
            clear hD
            simp only [putAll, Nat.zero_add, Nat.reduceAdd, Act.put, List.setIfInBounds_toArray, List.set_cons_succ, List.set_cons_zero] at hK ⊢
            generalize vs 5 = v5 at hK d5 ⊢
            subst d5
            generalize vs 6 = v6 at hK d6 ⊢
            subst d6
            have rt := HrT.out
            go_wp2_with fail
            exact hK _ _ rfl (fun _ _ _ h => h) (Mod.refl _ _)
          refine opsOkU_cons ?_ ?_
          · intro K vs W hR hD hK
            have d1 : (fun v W => ∃ g, v = .slice (some ⟨g, 0, none⟩) 0 0 ∧ w.heap.size ≤ g ∧ W.ownsRow 0 173 2 v 0 []) (vs 1) W := hD 1 (by decide)
            have d7 : vs 7 = .slice a i c := hD 7 (by decide)
            clear hD
            simp only [putAll, Nat.zero_add, Nat.reduceAdd, Act.put, List.setIfInBounds_toArray, List.set_cons_succ, List.set_cons_zero] at hK ⊢
            generalize vs 1 = v1 at hK d1 ⊢
            generalize vs 7 = v7 at hK d7 ⊢
            subst d7
            obtain ⟨g, rfl, hg, ho⟩ := d1
            go_wp2_with (at_builtin; refine wpList_append_any rfl (.tmp 25) (.tmp 31) 169 rfl 173 iK (.agg #[.int .i64 0, .int .i64 0]) 2 16 Tryz.underlying169 hiK zK sK bK rfl (by decide) _ 0 _ rfl ho (.slice a i c) i _ rfl (hrT.keepA (HMOD.out _ hR) (fun _ _ e => e.elim)) hcT l1 l2 ?_; intro v' w' hap; obtain ⟨a2, c2, rfl⟩ := hap.form)
            refine hK _ _ ⟨a2, c2, by simp, by simpa using hap.low hR.size (low_lit hg), by simpa using hap.own⟩ (fun j u _ h => HST j u _ _ h (grown_lit ho hap)) ((grown_lit ho hap).mono (fun _ _ e => e.elim))
          refine opsOkU_cons ?_ ?_
          · intro K vs W hR hD hK
            clear hD
            simp only [putAll, Nat.zero_add, Nat.reduceAdd, Act.put, List.setIfInBounds_toArray, List.set_cons_succ, List.set_cons_zero] at hK ⊢
            go_wp2
            exact hK _ _ rfl (fun _ _ _ h => h) (Mod.refl _ _)
          refine opsOkU_cons ?_ ?_
          · intro K vs W hR hD hK
            have d9 : vs 9 = .pointer (some ⟨q, 0, none⟩) := hD 9 (by decide)
            clear hD
            simp only [putAll, Nat.zero_add, Nat.reduceAdd, Act.put, List.setIfInBounds_toArray, List.set_cons_succ, List.set_cons_zero] at hK ⊢
            generalize vs 9 = v9 at hK d9 ⊢
            subst d9
            go_wp2
            exact hK _ _ rfl (fun _ _ _ h => h) (Mod.refl _ _)
          refine opsOkU_cons ?_ ?_
          · intro K vs W hR hD hK
            have d10 : vs 10 = .pointer (some ⟨q, 0, none⟩) := hD 10 (by decide)
            clear hD
            simp only [putAll, Nat.zero_add, Nat.reduceAdd, Act.put, List.setIfInBounds_toArray, List.set_cons_succ, List.set_cons_zero] at hK ⊢
            generalize vs 10 = v10 at hK d10 ⊢
            subst d10
            go_wp2
            exact hK _ _ rfl (fun _ _ _ h => h) (Mod.refl _ _)
          refine opsOkU_cons ?_ ?_
          · intro K vs W hR hD hK
            have d11 : vs 11 = .pointer (some ⟨q, 0, none⟩) := hD 11 (by decide)
            clear hD
            simp only [putAll, Nat.zero_add, Nat.reduceAdd, Act.put, List.setIfInBounds_toArray, List.set_cons_succ, List.set_cons_zero] at hK ⊢
            generalize vs 11 = v11 at hK d11 ⊢
            subst d11
            have c0q := HQ.out _ hR
            go_wp2
            exact hK _ _ rfl (fun _ _ _ h => h) (Mod.refl _ _)
          refine opsOkU_cons ?_ ?_
          · intro K vs W hR hD hK
            clear hD
            simp only [putAll, Nat.zero_add, Nat.reduceAdd, Act.put, List.setIfInBounds_toArray, List.set_cons_succ, List.set_cons_zero] at hK ⊢
            go_wp2
            exact hK _ _ rfl (fun _ _ _ h => h) (Mod.refl _ _)
          refine opsOkU_cons ?_ ?_
          · intro K vs W hR hD hK
            have d13 : vs 13 = .int .i64 i := hD 13 (by decide)
            clear hD
            simp only [putAll, Nat.zero_add, Nat.reduceAdd, Act.put, List.setIfInBounds_toArray, List.set_cons_succ, List.set_cons_zero] at hK ⊢
            generalize vs 13 = v13 at hK d13 ⊢
            subst d13
            go_wp2
            exact hK _ _ rfl (fun _ _ _ h => h) (Mod.refl _ _)
          refine opsOkU_cons ?_ ?_
          · intro K vs W hR hD hK
            have d12 : vs 12 = .slice a S.length c := hD 12 (by decide)
            have d14 : vs 14 = .int .i64 ((i : Int) + 1) := hD 14 (by decide)
            clear hD
            simp only [putAll, Nat.zero_add, Nat.reduceAdd, Act.put, List.setIfInBounds_toArray, List.set_cons_succ, List.set_cons_zero] at hK ⊢
            generalize vs 12 = v12 at hK d12 ⊢
            subst d12
            generalize vs 14 = v14 at hK d14 ⊢
            subst d14
            have rd := HrD.out
            go_wp2_with fail
            exact hK _ _ rfl (fun _ _ _ h => h) (Mod.refl _ _)
          refine opsOkU_cons ?_ ?_
          · intro K vs W hR hD hK
            have d8 : (fun v W => ∃ a c, v = .slice a (i) c ∧ (∀ k, v.ownBlock = some k → w.heap.size ≤ k) ∧ W.ownsRow 0 173 2 v (i) ((S.flatMap cellsIt).take (i * 2))) (vs 8) W := hD 8 (by decide)
            have d15 : vs 15 = .slice (dropA a c (i + 1) 2) (S.length - (i + 1)) (c - (i + 1)) := hD 15 (by decide)
            clear hD
            simp only [putAll, Nat.zero_add, Nat.reduceAdd, Act.put, List.setIfInBounds_toArray, List.set_cons_succ, List.set_cons_zero] at hK ⊢
            generalize vs 8 = v8 at hK d8 ⊢
            generalize vs 15 = v15 at hK d15 ⊢
            subst d15
            obtain ⟨a1, c1, rfl, hg, ho⟩ := d8
            go_wp2_with (at_builtin; refine wpList_append_any rfl (.tmp 32) (.tmp 39) 169 rfl 173 iK (.agg #[.int .i64 0, .int .i64 0]) 2 16 Tryz.underlying169 hiK zK sK bK rfl (by decide) _ i _ rfl ho (.slice (dropA a c (i + 1) 2) (S.length - (i + 1)) (c - (i + 1))) (S.length - (i + 1)) _ rfl (hrD.keepA (HMOD.out _ hR) (fun _ _ e => e.elim)) hcD l3 l4 ?_; intro v' w' hap; obtain ⟨a2, c2, rfl⟩ := hap.form)
            refine hK _ _ ⟨a2, c2, rfl, hap.low hR.size hg, hap.own⟩ (fact_solid HSO 16 (by kernel_rfl)) (hap.mod.mono (fun k _ e => hg k e))
          refine opsOkU_cons ?_ ?_
          · intro K vs W hR hD hK
            have d0 : vs 0 = .pointer (some ⟨q, 0, none⟩) := hD 0 (by decide)
            clear hD
            simp only [putAll, Nat.zero_add, Nat.reduceAdd, Act.put, List.setIfInBounds_toArray, List.set_cons_succ, List.set_cons_zero] at hK ⊢
            generalize vs 0 = v0 at hK d0 ⊢
            subst d0
            go_wp2
            exact hK _ _ rfl (fun _ _ _ h => h) (Mod.refl _ _)
          refine opsOkU_cons ?_ ?_
          · intro K vs W hR hD hK
            have d17 : vs 17 = .pointer (some ⟨q, 0, none⟩) := hD 17 (by decide)
            clear hD
            simp only [putAll, Nat.zero_add, Nat.reduceAdd, Act.put, List.setIfInBounds_toArray, List.set_cons_succ, List.set_cons_zero] at hK ⊢
            generalize vs 17 = v17 at hK d17 ⊢
            subst d17
            go_wp2
            exact hK _ _ rfl (fun _ _ _ h => h) (Mod.refl _ _)
          exact opsOkU_nil
        · intro vs W hR hF
          have d16 : (fun v W => ∃ a c, v = .slice a (i + (S.length - (i + 1))) c ∧ (∀ k, v.ownBlock = some k → w.heap.size ≤ k) ∧ W.ownsRow 0 173 2 v (i + (S.length - (i + 1))) ((S.flatMap cellsIt).take (i * 2) ++ (S.flatMap cellsIt).drop ((i + 1) * 2))) (vs 16) W := hF 16 (by decide) (by decide)
          have d18 : vs 18 = .pointer (some ⟨q, 0, none⟩) := hF 18 (by decide) (by decide)
          clear hF
          simp only [putAll, Nat.zero_add, Nat.reduceAdd, Act.put, List.setIfInBounds_toArray, List.set_cons_succ, List.set_cons_zero]
          generalize vs 16 = v16 at d16 ⊢
          generalize vs 18 = v18 at d18 ⊢
          subst d18
          obtain ⟨a2, c2, rfl, lo2, ho2⟩ := d16
          have hm2 := HMOD.out _ hR
          have hb2 : Blk W q 171 [.slice a S.length c] := h1.keep hm2 (fun e => e)
          have d02 := hb2.free 0
          have c02 := hb2.cell 0 rfl
          rw [flat_takeIt, flat_dropIt, ← List.flatMap_append, HDE.out] at ho2
          have hst := MHO.stored h3 h1.lt hm2 hb2 ho2 lo2 (fun x hx => h6 x (mem_dropS.1 hx).1)
          have HSTO := Lib.hid hst
          clear hst
          go_wp2_with fail
          go_meet
          obtain ⟨F', hF1, hF2⟩ := HSTO.out
          exact ⟨F', hF1, hF2, HP.out⟩
  case rest =>
    obtain ⟨F1, hO1, hA1, hP⟩ := hcut
    have HP := Lib.hid hP
    have hs1 : Srt (dropS S id) := srt_drop hs id
    have hT : (dropS S id).length ≤ 900000000 := Nat.le_trans (List.length_filter_le _ _) hS
    obtain ⟨T, hTT⟩ : ∃ T, dropS S id = T := ⟨_, rfl⟩
    rw [hTT] at hO1 hs1 hT
    have HT := Lib.hid hTT
    clear hP hTT hO h1 h2 h3 h4 h5 h6 hfind hc2
    obtain ⟨v, h1, h2, h3, h4, h5, h6⟩ := hO1
    obtain ⟨a, c, hv⟩ : ∃ a c, v = .slice a T.length c := by obtain ⟨_, a, c, hv, _⟩ := h2; exact ⟨a, c, hv⟩
    subst hv
    have c0 := h1.cell 0 rfl
    go_upto_block 0 with fail
    go_cut [8] (fun s8 wx => wx = wc ∧ PlaceOf T (id, key) s8)
    case first =>
      go_wp2_with fail
      go_loop [8] (fun i => ∃ k : Nat, k ≤ T.length ∧ i = .int .i64 k ∧ ∀ j, j < k → bef (g T j) (id, key) = true) (fun i => T.length - (intOf i).toNat)
      case atStart => exact ⟨0, Nat.zero_le _, rfl, fun j hj => by omega⟩
      case round =>
        obtain ⟨k, hk, rfl, hall⟩ := hrel
        have HALL := Lib.hid hall
        clear hall
        by_cases hlt : k < T.length
        · obtain ⟨_, b, o, hp, e1, e2⟩ := rd_it h2 k hlt
          have hix := fun wx => run_indexS (P := Tryz.prog) wx 169 173 iK 2 Tryz.underlying169 hiK sK a T.length c k hlt (h2.some_ (by omega))
          rw [hp] at hix
          clear hp
          obtain ⟨y, hy⟩ : ∃ y, g T k = y := ⟨_, rfl⟩
          rw [hy] at e1 e2
          obtain ⟨y1, y2⟩ := y
          simp only at e1 e2
          have HY := Lib.hid hy
          clear hy
          have hlN : decide (k < T.length) = true := by simpa using hlt
          have hnext : bef (y1, y2) (id, key) = true → ∀ j, j < k + 1 → bef (g T j) (id, key) = true := fun hb j hj => by
            by_cases e : j = k
            · rw [e, HY.out]; exact hb
            · exact HALL.out j (by omega)
          have hstop : bef (y1, y2) (id, key) = false → PlaceOf T (id, key) (.int .i64 k) := fun hb => ⟨k, rfl, hk, HALL.out, .inr (by rw [HY.out]; exact hb)⟩
          have HN := Lib.hid hnext
          have HS := Lib.hid hstop
          clear hnext hstop
          by_cases q1 : y2 < key
          · have hb : bef (y1, y2) (id, key) = true := by rw [bef_iff]; exact .inl q1
            have e3 : decide (y2 < key) = true := by simpa using q1
            have HB := Lib.hid hb
            clear hb
            go_wp2_with fail
            go_round
            case rel => exact ⟨k + 1, hlt, by go_num, HN.out HB.out⟩
            case measure => simp [intOf]; omega
          · have e3 : decide (y2 < key) = false := by simpa using q1
            by_cases q2 : y2 = key
            · have e4 : (y2 == key) = true := by simpa using q2
              by_cases q3 : y1 < id
              · have hb : bef (y1, y2) (id, key) = true := by rw [bef_iff]; exact .inr ⟨q2, q3⟩
                have e5 : decide (y1 < id) = true := by simpa using q3
                have HB := Lib.hid hb
                clear hb q2
                go_wp2_with fail
                go_round
                case rel => exact ⟨k + 1, hlt, by go_num, HN.out HB.out⟩
                case measure => simp [intOf]; omega
              · have hb : bef (y1, y2) (id, key) = false := by rw [bef_not]; exact .inr ⟨q2, by simp; omega⟩
                have e5 : decide (y1 < id) = false := by simpa using q3
                have HB := Lib.hid hb
                clear hb q2
                go_wp2_with fail
                go_meet
                exact ⟨rfl, HS.out HB.out⟩
            · have hb : bef (y1, y2) (id, key) = false := by rw [bef_not]; simp only; omega
              have e4 : (y2 == key) = false := by simpa using q2
              have HB := Lib.hid hb
              clear hb q2
              go_wp2_with fail
              go_meet
              exact ⟨rfl, HS.out HB.out⟩
        · obtain rfl : k = T.length := by omega
          have hlN : decide (T.length < T.length) = false := by simp
          have HS : Hid (PlaceOf T (id, key) (.int .i64 T.length)) := Lib.hid ⟨_, rfl, Nat.le_refl _, HALL.out, .inl rfl⟩
          go_wp2_with fail
          go_meet
          exact ⟨rfl, HS.out⟩
    case rest =>
      obtain ⟨rfl, k, rfl, hk, hall, hend⟩ := hcut
      have hins := place_ins hk hall hend
      have HINS := Lib.hid hins
      clear hins hall hend
      have rT := fun wx => run_takeS (P := Tryz.prog) wx 169 173 iK Tryz.underlying169 hiK a T.length c k (by obtain ⟨_, a', c', he, h', _⟩ := h2; cases he; omega)
      have rD := fun wx => run_dropS (P := Tryz.prog) wx 169 173 iK 2 Tryz.underlying169 hiK sK a T.length c k hk
      have hrT := h2.take hk
      have hrD := h2.drop hk
      have hnew : ∀ u ∈ T.flatMap cellsIt, u.oneCell' = true := by
        intro u hu
        obtain ⟨x, _, hx⟩ := List.mem_flatMap.1 hu
        simp [cellsIt] at hx
        rcases hx with rfl | rfl <;> rfl
      have hcT : ∀ u ∈ (T.flatMap cellsIt).take (k * 2), u.oneCell' = true := fun u hu => hnew u (List.mem_of_mem_take hu)
      have hcD : ∀ u ∈ (T.flatMap cellsIt).drop (k * 2), u.oneCell' = true := fun u hu => hnew u (List.mem_of_mem_drop hu)
      have hcE : ∀ u ∈ [Value.int .i64 id, Value.int .i64 key], u.oneCell' = true := by simp [Value.oneCell']
      clear hnew
      have l1 : 0 + k ≤ maxLen := by unfold maxLen; omega
      have l2 : (0 + k) * 16 ≤ 140737488355328 := by omega
      have l3 : k + 1 ≤ maxLen := by unfold maxLen; omega
      have l4 : (k + 1) * 16 ≤ 140737488355328 := by omega
      have l5 : k + 1 + (T.length - k) ≤ maxLen := by unfold maxLen; omega
      have l6 : (k + 1 + (T.length - k)) * 16 ≤ 140737488355328 := by omega
      go_wp2_with fail
      have HQ : Hid (∀ W, Mod (fun k => wc.heap.size ≤ k) (World.drew wc) W → W.cell? ⟨q, 0, none⟩ = some (.slice a T.length c)) := Lib.hid fun W hm => hm.cell (h1.drew.cell 0 rfl) (by have := h1.lt; show ¬ wc.heap.size ≤ q; omega)
      have HMOD : Hid (∀ W, Mod (fun k => wc.heap.size ≤ k) (World.drew wc) W → Mod (fun _ => False) wc W) := Lib.hid fun W hm => (Mod.drew _ _).trans hm (fun _ _ e => e) (fun i hi e => by show False; omega)
      have HrT := Lib.hid rT
      have HrD := Lib.hid rD
      clear rT rD
      have HST : ∀ (ix : Nat) (vx : Value) (wx wy : World), factOf (rins_F wc q k c a T id key) ix vx wx → Mod (fun _ => False) wx wy → factOf (rins_F wc q k c a T id key) ix vx wy := by
        refine fact_stays ?_
        intro f hf
        simp only [rins_F, List.mem_cons, List.not_mem_nil, or_false] at hf
        rcases hf with rfl | rfl | rfl | rfl | rfl | rfl | rfl | rfl | rfl | rfl | rfl | rfl | rfl | rfl | rfl | rfl | rfl | rfl | rfl | rfl | rfl | rfl | rfl <;> first | exact stable_val _ | exact stable_new | exact (fun _ _ _ ⟨g, h1, h2, h3⟩ hm => ⟨g, h1, h2, Own.keep h3 hm (fun _ _ e => e)⟩) | exact (fun _ _ _ ⟨a, c, h1, h2, h3⟩ hm => ⟨a, c, h1, h2, Own.keep h3 hm (fun _ _ e => e)⟩) | exact (fun _ _ _ ⟨p, h, hr⟩ hm => ⟨p, h, hr.keepA hm (fun _ _ e => e.elim)⟩)
      have HSO : ∀ px ∈ (rins_F wc q k c a T id key), px.1 = true → ∀ (vx : Value) (wx wy : World), px.2 vx wx → px.2 vx wy := by
        intro f hf
        simp only [rins_F, List.mem_cons, List.not_mem_nil, or_false] at hf
        rcases hf with rfl | rfl | rfl | rfl | rfl | rfl | rfl | rfl | rfl | rfl | rfl | rfl | rfl | rfl | rfl | rfl | rfl | rfl | rfl | rfl | rfl | rfl | rfl <;> first | exact fun _ _ _ _ h => h | (intro h; cases h)
      refine wp_region_use (Mod (fun k => wc.heap.size ≤ k)) (factOf (rins_F wc q k c a T id key)) (fun i => rins_C.getD i 1000) (fun i => rins_D.getD i []) 23 _ rfl rfl (by kernel_rfl) (by kernel_rfl) (by kernel_rfl) (by kernel_rfl) (by kernel_rfl) (fun _ => Mod.refl _ _)
        (fun _ _ _ h k => h.trans k (fun _ _ e => e) (fun _ _ e => e)) ?_ ?_
      · refine opsOkU_cons ?_ ?_
        · intro K vs W hR hD hK
          clear hD
          simp only [putAll, Nat.zero_add, Nat.reduceAdd, Act.put, List.setIfInBounds_toArray, List.set_cons_succ, List.set_cons_zero] at hK ⊢
          go_wp2
          exact hK _ _ rfl (fun _ _ _ h => h) (Mod.refl _ _)
        refine opsOkU_cons ?_ ?_
        · intro K vs W hR hD hK
          clear hD
          simp only [putAll, Nat.zero_add, Nat.reduceAdd, Act.put, List.setIfInBounds_toArray, List.set_cons_succ, List.set_cons_zero] at hK ⊢
          go_wp2
          exact hK _ _ ⟨_, rfl, hR.size, own_empty _ _ _ _ rfl⟩ (fun j u _ h => HST j u _ _ h (Mod.alloc _ _ _)) (Mod.alloc _ _ _)
        refine opsOkU_cons ?_ ?_
        · intro K vs W hR hD hK
          clear hD
          simp only [putAll, Nat.zero_add, Nat.reduceAdd, Act.put, List.setIfInBounds_toArray, List.set_cons_succ, List.set_cons_zero] at hK ⊢
          go_wp2
          exact hK _ _ rfl (fun _ _ _ h => h) (Mod.refl _ _)
        refine opsOkU_cons ?_ ?_
        · intro K vs W hR hD hK
          have d2 : vs 2 = .pointer (some ⟨q, 0, none⟩) := hD 2 (by decide)
          clear hD
          simp only [putAll, Nat.zero_add, Nat.reduceAdd, Act.put, List.setIfInBounds_toArray, List.set_cons_succ, List.set_cons_zero] at hK ⊢
          generalize vs 2 = v2 at hK d2 ⊢
          subst d2
          go_wp2
          exact hK _ _ rfl (fun _ _ _ h => h) (Mod.refl _ _)
        refine opsOkU_cons ?_ ?_
        · intro K vs W hR hD hK
          have d3 : vs 3 = .pointer (some ⟨q, 0, none⟩) := hD 3 (by decide)
          clear hD
          simp only [putAll, Nat.zero_add, Nat.reduceAdd, Act.put, List.setIfInBounds_toArray, List.set_cons_succ, List.set_cons_zero] at hK ⊢
          generalize vs 3 = v3 at hK d3 ⊢
          subst d3
          go_wp2
          exact hK _ _ rfl (fun _ _ _ h => h) (Mod.refl _ _)
        refine opsOkU_cons ?_ ?_
        · intro K vs W hR hD hK
          have d4 : vs 4 = .pointer (some ⟨q, 0, none⟩) := hD 4 (by decide)
          clear hD
          simp only [putAll, Nat.zero_add, Nat.reduceAdd, Act.put, List.setIfInBounds_toArray, List.set_cons_succ, List.set_cons_zero] at hK ⊢
          generalize vs 4 = v4 at hK d4 ⊢
          subst d4
          have c0q := HQ.out _ hR
          go_wp2
          exact hK _ _ rfl (fun _ _ _ h => h) (Mod.refl _ _)
        refine opsOkU_cons ?_ ?_
        · intro K vs W hR hD hK
          clear hD
          simp only [putAll, Nat.zero_add, Nat.reduceAdd, Act.put, List.setIfInBounds_toArray, List.set_cons_succ, List.set_cons_zero] at hK ⊢
          go_wp2
          exact hK _ _ rfl (fun _ _ _ h => h) (Mod.refl _ _)
        refine opsOkU_cons ?_ ?_
        · intro K vs W hR hD hK
          have d5 : vs 5 = .slice a T.length c := hD 5 (by decide)
          have d6 : vs 6 = .int .i64 k := hD 6 (by decide)
          clear hD
          simp only [putAll, Nat.zero_add, Nat.reduceAdd, Act.put, List.setIfInBounds_toArray, List.set_cons_succ, List.set_cons_zero] at hK ⊢
          generalize vs 5 = v5 at hK d5 ⊢
          subst d5
          generalize vs 6 = v6 at hK d6 ⊢
          subst d6
          have rt := HrT.out
          go_wp2_with fail
          exact hK _ _ rfl (fun _ _ _ h => h) (Mod.refl _ _)
        refine opsOkU_cons ?_ ?_
        · intro K vs W hR hD hK
          have d1 : (fun v W => ∃ g, v = .slice (some ⟨g, 0, none⟩) 0 0 ∧ wc.heap.size ≤ g ∧ W.ownsRow 0 173 2 v 0 []) (vs 1) W := hD 1 (by decide)
          have d7 : vs 7 = .slice a k c := hD 7 (by decide)
          clear hD
          simp only [putAll, Nat.zero_add, Nat.reduceAdd, Act.put, List.setIfInBounds_toArray, List.set_cons_succ, List.set_cons_zero] at hK ⊢
          generalize vs 1 = v1 at hK d1 ⊢
          generalize vs 7 = v7 at hK d7 ⊢
          subst d7
          obtain ⟨g, rfl, hg, ho⟩ := d1
          go_wp2_with (at_builtin; refine wpList_append_any rfl (.tmp 89) (.tmp 95) 169 rfl 173 iK (.agg #[.int .i64 0, .int .i64 0]) 2 16 Tryz.underlying169 hiK zK sK bK rfl (by decide) _ 0 _ rfl ho (.slice a k c) k _ rfl (hrT.keepA (HMOD.out _ hR) (fun _ _ e => e.elim)) hcT l1 l2 ?_; intro v' w' hap; obtain ⟨a2, c2, rfl⟩ := hap.form)
          refine hK _ _ ⟨a2, c2, by simp, by simpa using hap.low hR.size (low_lit hg), by simpa using hap.own⟩ (fun j u _ h => HST j u _ _ h (grown_lit ho hap)) ((grown_lit ho hap).mono (fun _ _ e => e.elim))
        refine opsOkU_cons ?_ ?_
        · intro K vs W hR hD hK
          clear hD
          simp only [putAll, Nat.zero_add, Nat.reduceAdd, Act.put, List.setIfInBounds_toArray, List.set_cons_succ, List.set_cons_zero] at hK ⊢
          go_wp2
          exact hK _ _ rfl (fun _ _ _ h => h) (Mod.refl _ _)
        refine opsOkU_cons ?_ ?_
        · intro K vs W hR hD hK
          clear hD
          simp only [putAll, Nat.zero_add, Nat.reduceAdd, Act.put, List.setIfInBounds_toArray, List.set_cons_succ, List.set_cons_zero] at hK ⊢
          go_wp2
          exact hK _ _ rfl (fun _ _ _ h => h) (Mod.refl _ _)
        refine opsOkU_cons ?_ ?_
        · intro K vs W hR hD hK
          have d9 : vs 9 = .int .i64 id := hD 9 (by decide)
          have d10 : vs 10 = .int .i64 key := hD 10 (by decide)
          clear hD
          simp only [putAll, Nat.zero_add, Nat.reduceAdd, Act.put, List.setIfInBounds_toArray, List.set_cons_succ, List.set_cons_zero] at hK ⊢
          generalize vs 9 = v9 at hK d9 ⊢
          subst d9
          generalize vs 10 = v10 at hK d10 ⊢
          subst d10
          go_wp2
          exact hK _ _ rfl (fun _ _ _ h => h) (Mod.refl _ _)
        refine opsOkU_cons ?_ ?_
        · intro K vs W hR hD hK
          have d11 : vs 11 = .agg #[.int .i64 id, .int .i64 key] := hD 11 (by decide)
          clear hD
          simp only [putAll, Nat.zero_add, Nat.reduceAdd, Act.put, List.setIfInBounds_toArray, List.set_cons_succ, List.set_cons_zero] at hK ⊢
          generalize vs 11 = v11 at hK d11 ⊢
          subst d11
          go_wp2
          exact hK _ _ ⟨_, rfl, Rd.one2 _ _ _ _ _ rfl⟩ (fun j u _ h => HST j u _ _ h (Mod.alloc _ _ _)) (Mod.alloc _ _ _)
        refine opsOkU_cons ?_ ?_
        · intro K vs W hR hD hK
          have d8 : (fun v W => ∃ a c, v = .slice a (k) c ∧ (∀ k, v.ownBlock = some k → wc.heap.size ≤ k) ∧ W.ownsRow 0 173 2 v (k) ((T.flatMap cellsIt).take (k * 2))) (vs 8) W := hD 8 (by decide)
          have d12 : (fun v W => ∃ p, v = .slice (some ⟨p, 0, none⟩) 1 1 ∧ Rd W 2 v 1 [.int .i64 id, .int .i64 key]) (vs 12) W := hD 12 (by decide)
          clear hD
          simp only [putAll, Nat.zero_add, Nat.reduceAdd, Act.put, List.setIfInBounds_toArray, List.set_cons_succ, List.set_cons_zero] at hK ⊢
          generalize vs 8 = v8 at hK d8 ⊢
          generalize vs 12 = v12 at hK d12 ⊢
          obtain ⟨p2, rfl, hp2⟩ := d12
          obtain ⟨a1, c1, rfl, hg, ho⟩ := d8
          go_wp2_with (at_builtin; refine wpList_append_any rfl (.tmp 96) (.tmp 100) 169 rfl 173 iK (.agg #[.int .i64 0, .int .i64 0]) 2 16 Tryz.underlying169 hiK zK sK bK rfl (by decide) _ k _ rfl ho (.slice (some ⟨p2, 0, none⟩) 1 1) 1 _ rfl hp2 hcE l3 l4 ?_; intro v' w' hap; obtain ⟨a2, c2, rfl⟩ := hap.form)
          refine hK _ _ ⟨a2, c2, rfl, hap.low hR.size hg, hap.own⟩ (fact_solid HSO 13 (by kernel_rfl)) (hap.mod.mono (fun k _ e => hg k e))
        refine opsOkU_cons ?_ ?_
        · intro K vs W hR hD hK
          clear hD
          simp only [putAll, Nat.zero_add, Nat.reduceAdd, Act.put, List.setIfInBounds_toArray, List.set_cons_succ, List.set_cons_zero] at hK ⊢
          go_wp2
          exact hK _ _ rfl (fun _ _ _ h => h) (Mod.refl _ _)
        refine opsOkU_cons ?_ ?_
        · intro K vs W hR hD hK
          have d14 : vs 14 = .pointer (some ⟨q, 0, none⟩) := hD 14 (by decide)
          clear hD
          simp only [putAll, Nat.zero_add, Nat.reduceAdd, Act.put, List.setIfInBounds_toArray, List.set_cons_succ, List.set_cons_zero] at hK ⊢
          generalize vs 14 = v14 at hK d14 ⊢
          subst d14
          go_wp2
          exact hK _ _ rfl (fun _ _ _ h => h) (Mod.refl _ _)
        refine opsOkU_cons ?_ ?_
        · intro K vs W hR hD hK
          have d15 : vs 15 = .pointer (some ⟨q, 0, none⟩) := hD 15 (by decide)
          clear hD
          simp only [putAll, Nat.zero_add, Nat.reduceAdd, Act.put, List.setIfInBounds_toArray, List.set_cons_succ, List.set_cons_zero] at hK ⊢
          generalize vs 15 = v15 at hK d15 ⊢
          subst d15
          go_wp2
          exact hK _ _ rfl (fun _ _ _ h => h) (Mod.refl _ _)
        refine opsOkU_cons ?_ ?_
        · intro K vs W hR hD hK
          have d16 : vs 16 = .pointer (some ⟨q, 0, none⟩) := hD 16 (by decide)
          clear hD
          simp only [putAll, Nat.zero_add, Nat.reduceAdd, Act.put, List.setIfInBounds_toArray, List.set_cons_succ, List.set_cons_zero] at hK ⊢
          generalize vs 16 = v16 at hK d16 ⊢
          subst d16
          have c0q := HQ.out _ hR
          go_wp2
          exact hK _ _ rfl (fun _ _ _ h => h) (Mod.refl _ _)
        refine opsOkU_cons ?_ ?_
        · intro K vs W hR hD hK
          clear hD
          simp only [putAll, Nat.zero_add, Nat.reduceAdd, Act.put, List.setIfInBounds_toArray, List.set_cons_succ, List.set_cons_zero] at hK ⊢
          go_wp2
          exact hK _ _ rfl (fun _ _ _ h => h) (Mod.refl _ _)
        refine opsOkU_cons ?_ ?_
        · intro K vs W hR hD hK
          have d17 : vs 17 = .slice a T.length c := hD 17 (by decide)
          have d18 : vs 18 = .int .i64 k := hD 18 (by decide)
          clear hD
          simp only [putAll, Nat.zero_add, Nat.reduceAdd, Act.put, List.setIfInBounds_toArray, List.set_cons_succ, List.set_cons_zero] at hK ⊢
          generalize vs 17 = v17 at hK d17 ⊢
          subst d17
          generalize vs 18 = v18 at hK d18 ⊢
          subst d18
          have rd := HrD.out
          go_wp2_with fail
          exact hK _ _ rfl (fun _ _ _ h => h) (Mod.refl _ _)
        refine opsOkU_cons ?_ ?_
        · intro K vs W hR hD hK
          have d13 : (fun v W => ∃ a c, v = .slice a (k + 1) c ∧ (∀ k, v.ownBlock = some k → wc.heap.size ≤ k) ∧ W.ownsRow 0 173 2 v (k + 1) ((T.flatMap cellsIt).take (k * 2) ++ [.int .i64 id, .int .i64 key])) (vs 13) W := hD 13 (by decide)
          have d19 : vs 19 = .slice (dropA a c k 2) (T.length - k) (c - k) := hD 19 (by decide)
          clear hD
          simp only [putAll, Nat.zero_add, Nat.reduceAdd, Act.put, List.setIfInBounds_toArray, List.set_cons_succ, List.set_cons_zero] at hK ⊢
          generalize vs 13 = v13 at hK d13 ⊢
          generalize vs 19 = v19 at hK d19 ⊢
          subst d19
          obtain ⟨a1, c1, rfl, hg, ho⟩ := d13
          go_wp2_with (at_builtin; refine wpList_append_any rfl (.tmp 101) (.tmp 107) 169 rfl 173 iK (.agg #[.int .i64 0, .int .i64 0]) 2 16 Tryz.underlying169 hiK zK sK bK rfl (by decide) _ (k + 1) _ rfl ho (.slice (dropA a c k 2) (T.length - k) (c - k)) (T.length - k) _ rfl (hrD.keepA (HMOD.out _ hR) (fun _ _ e => e.elim)) hcD l5 l6 ?_; intro v' w' hap; obtain ⟨a2, c2, rfl⟩ := hap.form)
          refine hK _ _ ⟨a2, c2, rfl, hap.low hR.size hg, hap.own⟩ (fact_solid HSO 20 (by kernel_rfl)) (hap.mod.mono (fun k _ e => hg k e))
        refine opsOkU_cons ?_ ?_
        · intro K vs W hR hD hK
          have d0 : vs 0 = .pointer (some ⟨q, 0, none⟩) := hD 0 (by decide)
          clear hD
          simp only [putAll, Nat.zero_add, Nat.reduceAdd, Act.put, List.setIfInBounds_toArray, List.set_cons_succ, List.set_cons_zero] at hK ⊢
          generalize vs 0 = v0 at hK d0 ⊢
          subst d0
          go_wp2
          exact hK _ _ rfl (fun _ _ _ h => h) (Mod.refl _ _)
        refine opsOkU_cons ?_ ?_
        · intro K vs W hR hD hK
          have d21 : vs 21 = .pointer (some ⟨q, 0, none⟩) := hD 21 (by decide)
          clear hD
          simp only [putAll, Nat.zero_add, Nat.reduceAdd, Act.put, List.setIfInBounds_toArray, List.set_cons_succ, List.set_cons_zero] at hK ⊢
          generalize vs 21 = v21 at hK d21 ⊢
          subst d21
          go_wp2
          exact hK _ _ rfl (fun _ _ _ h => h) (Mod.refl _ _)
        exact opsOkU_nil
      · intro vs W hR hF
        have d20 : (fun v W => ∃ a c, v = .slice a (k + 1 + (T.length - k)) c ∧ (∀ k, v.ownBlock = some k → wc.heap.size ≤ k) ∧ W.ownsRow 0 173 2 v (k + 1 + (T.length - k)) ((T.flatMap cellsIt).take (k * 2) ++ [.int .i64 id, .int .i64 key] ++ (T.flatMap cellsIt).drop (k * 2))) (vs 20) W := hF 20 (by decide) (by decide)
        have d22 : vs 22 = .pointer (some ⟨q, 0, none⟩) := hF 22 (by decide) (by decide)
        clear hF
        simp only [putAll, Nat.zero_add, Nat.reduceAdd, Act.put, List.setIfInBounds_toArray, List.set_cons_succ, List.set_cons_zero]
        generalize vs 20 = v20 at d20 ⊢
        generalize vs 22 = v22 at d22 ⊢
        subst d22
        obtain ⟨a2, c2, rfl, lo2, ho2⟩ := d20
        have hm2 := HMOD.out _ hR
        have hb2 : Blk W q 171 [.slice a T.length c] := h1.keep hm2 (fun e => e)
        have d02 := hb2.free 0
        have c02 := hb2.cell 0 rfl
        have e1 : (T.flatMap cellsIt).take (k * 2) ++ [Value.int .i64 id, .int .i64 key] ++ (T.flatMap cellsIt).drop (k * 2) = (insS T (id, key)).flatMap cellsIt := by
          rw [← HINS.out, flat_takeIt, flat_dropIt]; simp [cellsIt]
        rw [e1] at ho2
        clear e1
        have hst := MHO.stored h3 h1.lt hm2 hb2 ho2 lo2 (fun x hx => by
          rcases List.mem_cons.1 ((insS_perm T (id, key)).mem_iff.1 hx) with e | e
          · rw [e]; exact ⟨hid, hkey⟩
          · exact h6 x e)
        have HSTO := Lib.hid hst
        clear hst
        go_wp2
        go_ret
        obtain ⟨F', hF1, hF2⟩ := HSTO.out
        exact ⟨by rw [HP.out]; rfl, F', by rw [HP.out, HT.out]; exact hF1, hA1.trans hF2⟩
end Go.Proofs.YtjjedebjbgpimaaGreat
namespace Go.Proofs.YtjjedebjbgpimaaGreat
open Go.RowKit Mile Go.Proofs.YtjjedebjbgpimaaGreat.WH
set_option maxRecDepth 100000

def RPopPost (q : Nat) (S : List It) (F : Nat → Prop) (w : World) (e : Ending) (w' : World) : Prop :=
  match S with
  | [] => e = .returned (.tuple #[.agg #[.int .i64 0, .int .i64 0], .bool false]) ∧ MHO w' q [] F ∧ Mod F w w'
  | x :: r => e = .returned (.tuple #[.agg #[.int .i64 x.1, .int .i64 x.2], .bool true]) ∧ MHO w' q r F ∧ Mod F w w'

set_option maxHeartbeats 2000000 in
theorem rpop_any (q : Nat) (w : World) (S : List It) (F : Nat → Prop) (h : MHO w q S F) :
    Calls Tryz.prog 132 #[.pointer (some ⟨q, 0, none⟩)] w (RPopPost q S F w) := by
  obtain ⟨iK, hiK, zK, sK, bK⟩ := info_parts MH.infoK
  have hk := h.keep (Mod.alloc (fun _ => False) w (.cells #[.int .i64 0, .int .i64 0] 173)) (fun _ _ e => e)
  obtain ⟨v, h1, h2, h3, h4, h5, h6⟩ := h
  obtain ⟨a, c, hv⟩ : ∃ a c, v = .slice a S.length c := by obtain ⟨_, a, c, hv, _⟩ := h2; exact ⟨a, c, hv⟩
  subst hv
  have c0 := h1.cell 0 rfl
  have d0 := h1.free 0
  have hql := h1.lt
  cases S with
  | nil =>
    go_enter Tryz.func132, Tryz.ntmps132
    go_wp2
    exact bodyPost_ret (v := .tuple #[.agg #[.int .i64 0, .int .i64 0], .bool false]) (by simp [results, Tryz.results132, go_sem]) rfl ⟨rfl, hk, Mod.alloc _ _ _⟩
  | cons x r =>
    clear hk
    have hl : (x :: r).length = r.length + 1 := rfl
    rw [hl] at h1 h2 h4 c0
    have hm : r.length + 1 ≤ 9223372036854775807 := by obtain ⟨_, a', c', he, h1, h2, _⟩ := h2; cases he; unfold maxLen at h2; omega
    obtain ⟨_, b, o, hp, e1, e2⟩ := rd_it h2 0 (by simp)
    have hix := fun wx => run_indexS (P := Tryz.prog) wx 169 173 iK 2 Tryz.underlying169 hiK sK a (r.length + 1) c 0 (by omega) (h2.some_ (by omega))
    rw [hp] at hix
    simp only [show g (x :: r) 0 = x from rfl] at e1 e2
    have hix0 : ∀ wx, (Instr.indexAt 169 (.slice a (r.length + 1) c) (.int .i64 0)).run Tryz.prog wx = .ok (.pointer (some ⟨b, o, none⟩)) wx := hix
    have rD := fun wx => run_dropS (P := Tryz.prog) wx 169 173 iK 2 Tryz.underlying169 hiK sK a (r.length + 1) c 1 (by omega)
    have rD1 : ∀ wx, (Instr.slice 169 (.slice a (r.length + 1) c) (some (.int .i64 1)) none none).run Tryz.prog wx = .ok (.slice (dropA a c 1 2) (r.length + 1 - 1) (c - 1)) wx := rD
    have hbl := World.block_lt_of_cell? w _ e1
    have hl0 : ((((r.length + 1 : Nat)) : Int) == 0) = false := by rw [beq_eq_false_iff_ne]; omega
    have hl1 : (((r.length : Int) + 1) == 0) = false := by rw [beq_eq_false_iff_ne]; omega
    clear hix rD hp
    go_enter Tryz.func132, Tryz.ntmps132
    go_wp2_with fail
    have hset : Mod (fun k => k = q) w (w.setCell ⟨q, 0, none⟩ (.slice (dropA a c 1 2) r.length (c - 1))) := Mod.setCell _ _ _ rfl
    have hO : MHO (w.setCell ⟨q, 0, none⟩ (.slice (dropA a c 1 2) r.length (c - 1))) q r F := by
      have hd := h2.drop (show 1 ≤ r.length + 1 by omega)
      have e1 : ((x :: r).flatMap cellsIt).drop (1 * 2) = r.flatMap cellsIt := by simp [cellsIt]
      rw [e1, Nat.add_sub_cancel] at hd
      have hown : ∀ k, (Value.slice (dropA a c 1 2) r.length (c - 1)).ownBlock = some k → F k ∧ k ≠ q := fun k hk => h4 k (by rw [← hk]; exact (dropA_own a c 1 2 _ _ _ _).symm)
      exact ⟨_, h1.set 0 _, hd.keep hset (fun k hk e => (hown k hk).2 e), h3, hown, fun k hk => by have := h5 k hk; simp; omega, fun y hy => h6 y (by simp [hy])⟩
    exact bodyPost_ret (v := .tuple #[.agg #[.int .i64 x.1, .int .i64 x.2], .bool true]) (by simp [results, Tryz.results132, go_sem]) rfl
      ⟨rfl, (hO.keep (Mod.alloc (fun _ => False) _ _) (fun _ _ e => e)).keep (Mod.alloc (fun _ => False) _ _) (fun _ _ e => e), ((hset.mono (fun k _ e => by rw [e]; exact h3) : Mod F w _).thenAlloc _).thenAlloc _⟩
end Go.Proofs.YtjjedebjbgpimaaGreat
