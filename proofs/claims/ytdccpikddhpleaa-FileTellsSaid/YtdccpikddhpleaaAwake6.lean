/- Law 6's awake by contract. -/
import Derived.Test.YtdccpikddhpleaaBack6
import Derived.Deep.DeepCutAuto
import Derived.Deep.CutBlock
namespace Go.Proofs.Ytdccpikddhpleaa
open Go.RowKit Mile
set_option maxRecDepth 100000
def G258 : GD := ⟨[(258, 0)], [], []⟩
theorem may258 : May G258 := by
  refine ⟨⟨⟨by decide, by decide⟩, by decide, by decide⟩, ?_, ?_, ?_⟩
  · intro x hx
    have : x = (258, 0) := by simpa [G258] using hx
    subst this
    exact ⟨⟨by decide, by decide⟩, ⟨by decide, by decide⟩⟩
  · intro x hx; simp [G258] at hx
  · intro i h; simp [G258] at h
theorem len258 : (fileG G258).length = 18 := by rw [fileG_len]; rfl
theorem file258 : (fileG G258).take 12 = [77, 73, 76, 69, 0, 1, 0, 0, 0, 0, 1, 2] := by
  unfold fileG
  rw [List.take_append_of_le_length (by rw [ahG_len]; decide)]
  decide +kernel
theorem may_nil : ¬ May ⟨[], [], []⟩ := fun h => by have := h.1.1.1; simp at this
theorem file_nil (G : GD) : ¬ fileG G = [] := fun h => by have := fileG_len G; rw [h] at this; simp at this; omega

set_option maxHeartbeats 16000000 in
theorem awake6_any (w : World) : Calls Try.prog 7 #[] w fun e w' => e = .returned (.bool true) ∧ Mod (fun _ => False) w w' := by
  obtain ⟨iN, hiN, hzN, hsN, hbN⟩ := info_parts GR.infoN
  obtain ⟨i0, hi, hz0, hz1, hz2⟩ := info_parts Chk.info5
  have HS : Hid (Ev (Mod (fun _ => False) w) w) := Lib.hid (Ev.mod w)
  go_enter Try.func7, Try.ntmps7
  go_wp2_with fail
  refine (encode_any G258 _ _ 1 1 none 0 0 none 0 0 ⟨rfl, rfl, rfl, Rd.litN 50 2 [.int .i64 258, .int .i64 0] (0, 0) _ 1 rfl rfl (by decide), Rd.nil _ _, Rd.nil _ _⟩).mono ?_
  rintro e wq100 hp
  rcases hp with ⟨_, a, c, rfl, ho, hm⟩ | ⟨hn, _⟩
  case inr => exact absurd may258 hn
  rw [len258] at ho ⊢
  replace HS := Lib.hid (HS.out.step ((Mod.alloc (fun _ => False) _ _).of2 hm))
  replace HS := Lib.hid ((Ev.rd (Rd.ofOwn ho)).and HS.out)
  clear hm ho
  have LEN := Lib.hid len258
  go_wp2_with fail
  refine (decode_any _ a 18 c (fileG G258) LEN.out ((HS.out.now).1) (fileG_range _) (by decide)).mono ?_
  rintro e wq101 hp
  rcases hp with ⟨_, a1, n1, d1, a2, n2, d2, a3, n3, d3, rfl, hg, hm⟩ | ⟨hn, _⟩
  case inr => exact absurd ⟨by rw [parse_file G258 may258]; exact may258, by rw [parse_file G258 may258]⟩ hn
  rw [parse_file G258 may258] at hg
  obtain rfl : n1 = 1 := hg.n.symm
  replace HS := Lib.hid (HS.out.step hm)
  replace HS := Lib.hid ((Ev.gv hg).and HS.out)
  clear hm hg
  go_upto_region 3 with fail
  obtain ⟨bg, hbg⟩ : ∃ b, wq101.heap.size = b := ⟨_, rfl⟩
  obtain ⟨wq1, hwq1⟩ : ∃ W, World.alloc wq101 (.cells #[.slice a1 1 d1, .slice a2 n2 d2, .slice a3 n3 d3] 26) = W := ⟨_, rfl⟩
  have hBbg : Blk wq1 bg 26 [.slice a1 1 d1, .slice a2 n2 d2, .slice a3 n3 d3] := by rw [← hwq1, ← hbg]; exact Blk.new _ 26 [.slice a1 1 d1, .slice a2 n2 d2, .slice a3 n3 d3]
  have hzbg : wq1.heap.size = bg + 1 := by rw [← hwq1, ← hbg]; exact heap_size_alloc _ _
  replace HS := Lib.hid (HS.out.step (w' := wq1) (by rw [← hwq1]; exact Mod.alloc _ _ _))
  replace HS := Lib.hid ((Ev.blk hBbg).and HS.out)
  try rw [hwq1]
  try rw [hbg]
  clear hzbg hBbg hbg hwq1
  go_wp2_with fail
  refine (decode_any _ none 0 0 [] rfl (Rd.nil _ _) (by simp) (by decide)).mono ?_
  rintro e wq102 hp
  rcases hp with ⟨hn, _⟩ | ⟨_, rfl, hm⟩
  case inl => exact absurd hn.2 (file_nil _)
  replace HS := Lib.hid (HS.out.step hm)
  clear hm
  go_upto_region 4 with fail
  obtain ⟨bn, hbn⟩ : ∃ b, wq102.heap.size = b := ⟨_, rfl⟩
  obtain ⟨wq2, hwq2⟩ : ∃ W, World.alloc wq102 (.cells #[.slice none 0 0, .slice none 0 0, .slice none 0 0] 26) = W := ⟨_, rfl⟩
  have hBbn : Blk wq2 bn 26 [.slice none 0 0, .slice none 0 0, .slice none 0 0] := by rw [← hwq2, ← hbn]; exact Blk.new _ 26 [.slice none 0 0, .slice none 0 0, .slice none 0 0]
  have hzbn : wq2.heap.size = bn + 1 := by rw [← hwq2, ← hbn]; exact heap_size_alloc _ _
  replace HS := Lib.hid (HS.out.step (w' := wq2) (by rw [← hwq2]; exact Mod.alloc _ _ _))
  replace HS := Lib.hid ((Ev.blk hBbn).and HS.out)
  try rw [hwq2]
  try rw [hbn]
  clear hzbn hBbn hbn hwq2
  go_wp2_with fail
  refine (encode_any ⟨[], [], []⟩ _ none 0 0 none 0 0 none 0 0 ⟨rfl, rfl, rfl, Rd.nil _ _, Rd.nil _ _, Rd.nil _ _⟩).mono ?_
  rintro e wq103 hp
  rcases hp with ⟨hn, _⟩ | ⟨_, rfl, hm⟩
  case inl => exact absurd hn may_nil
  replace HS := Lib.hid (HS.out.step hm)
  clear hm
  have hrd := (HS.out.now).2.2.2.1
  have h12 : 12 ≤ c := by obtain ⟨_, a', c', he, h1, _⟩ := hrd; cases he; omega
  have hts := fun wx => run_takeS (P := Try.prog) wx 27 5 i0 Try.underlying27 hi a 18 c 12 h12
  have hrt := hrd.take (n := 12) (by decide)
  rw [Nat.mul_one, ← List.map_take, file258] at hrt
  have hst := run_strS wq103 27 9 5 Try.underlying27 Try.underlying5 Try.underlying9 hrt
  have hlit : strOf [77, 73, 76, 69, 0, 1, 0, 0, 0, 0, 1, 2] = ⟨#[77, 73, 76, 69, 0, 1, 0, 0, 0, 0, 1, 2]⟩ := by rfl
  rw [hlit] at hst
  clear hrd hrt hlit
  have hl0 : 0 < G258.N.length := by decide
  obtain ⟨gb, go, hpl, e1, e2⟩ := Mile.rd2 ((HS.out.now).2.2.1.rn) 0 hl0
  replace e1 : wq103.cell? ⟨gb, go, none⟩ = some (.int .i64 258) := e1
  clear e2
  have hix := fun wx => run_indexS (P := Try.prog) wx 22 50 iN 2 Try.underlying22 hiN hsN a1 1 d1 0 (by decide) (((HS.out.now).2.2.1.rn).some_ (by decide))
  rw [hpl] at hix
  replace hix : ∀ wx : World, (Instr.indexAt 22 (.slice a1 1 d1) (.int .i64 0)).run Try.prog wx = .ok (.pointer (some ⟨gb, go, none⟩)) wx := hix
  clear hpl hl0
  have hbbg := (HS.out.now).2.1
  have qbg_0 := hbbg.cell 0 rfl
  have qbg_1 := hbbg.cell 1 rfl
  have qbg_2 := hbbg.cell 2 rfl
  have lbg := hbbg.lt
  clear hbbg
  go_wp2_with fail
  go_ret
  exact ⟨rfl, (HS.out.now).2.2.2.2⟩
end Go.Proofs.Ytdccpikddhpleaa
