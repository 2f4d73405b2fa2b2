/- FileTells walked. -/
import Derived.Test.YtdccpikddhpleaaAwake6
import Derived.Test.YtdccpikddhpleaaSame2
import Derived.Test.YtdccpikddhpleaaRRead6
import Derived.Test.YtdccpikddhpleaaKFew6
import Derived.Test.YtdccpikddhpleaaOpenG
import Derived.Test.YtdccpikddhpleaaOpensBI
import Derived.Test.YtdccpikddhpleaaRegion2
import Derived.Deep.DeepCutAuto
import Derived.Deep.CutBlock
namespace Go.Proofs.Ytdccpikddhpleaa
open Go.RowKit Mile
set_option maxRecDepth 100000
/-- The bytes that are looked at. -/
def FtCut (w0 : World) (v : Value) (W : World) : Prop := ∃ a n c b, v = .slice a n c ∧ List.length b = n ∧ Rd W 1 (.slice a n c) n (b.map (Value.int .u8)) ∧ (∀ x ∈ b, 0 ≤ x ∧ x < 256) ∧ n ≤ 1500 ∧ Mod (fun _ => False) w0 W

set_option maxHeartbeats 32000000 in
theorem ftells_all (w : World) (G : GD) (a1 : Option Addr) (n1 d1 : Nat) (a2 : Option Addr) (n2 d2 : Nat) (a3 : Option Addr) (n3 d3 : Nat) (h : GV w a1 n1 d1 a2 n2 d2 a3 n3 d3 G) (a : Option Addr) (n c : Nat) (b : List Int) (hn : b.length = n) (hr : Rd w 1 (.slice a n c) n (b.map (Value.int .u8))) (hb : ∀ x ∈ b, 0 ≤ x ∧ x < 256) (fix : Bool) :
    Calls Try.prog 3 #[.agg #[.slice a1 n1 d1, .slice a2 n2 d2, .slice a3 n3 d3], .slice a n c, .bool fix] w fun e w' => e = .returned (.bool true) ∧ Mod (fun _ => False) w w' := by
  obtain ⟨i0, hi8, hz0, hs8, hz2⟩ := info_parts Chk.info5
  have HS : Hid (Ev (Mod (fun _ => False) w) w) := Lib.hid (Ev.mod w)
  replace HS := Lib.hid ((Ev.gv h).and HS.out)
  replace HS := Lib.hid ((Ev.rd hr).and HS.out)
  have HN := Lib.hid hn
  have HB := Lib.hid hb
  clear h hr hn hb
  go_enter Try.func3, Try.ntmps3
  go_upto_region 1 with fail
  obtain ⟨bx, hbx⟩ : ∃ b, w.heap.size = b := ⟨_, rfl⟩
  obtain ⟨wq1, hwq1⟩ : ∃ W, World.alloc w (.cells #[.slice a1 n1 d1, .slice a2 n2 d2, .slice a3 n3 d3] 26) = W := ⟨_, rfl⟩
  have hBbx : Blk wq1 bx 26 [.slice a1 n1 d1, .slice a2 n2 d2, .slice a3 n3 d3] := by rw [← hwq1, ← hbx]; exact Blk.new _ 26 [.slice a1 n1 d1, .slice a2 n2 d2, .slice a3 n3 d3]
  have hzbx : wq1.heap.size = bx + 1 := by rw [← hwq1, ← hbx]; exact heap_size_alloc _ _
  replace HS := Lib.hid (HS.out.step (w' := wq1) (by rw [← hwq1]; exact Mod.alloc _ _ _))
  replace HS := Lib.hid ((Ev.blk hBbx).and HS.out)
  try rw [hwq1]
  try rw [hbx]
  clear hzbx hBbx hbx hwq1
  have hbbx := (HS.out.now).1
  have qbx_0 := hbbx.cell 0 rfl
  have qbx_1 := hbbx.cell 1 rfl
  have qbx_2 := hbbx.cell 2 rfl
  have lbx := hbbx.lt
  clear hbbx
  go_wp2_with fail
  refine (few_any _ a1 n1 d1 a2 n2 d2 a3 n3 d3).mono ?_
  rintro e wq50 ⟨rfl, hmm⟩
  replace HS := Lib.hid (HS.out.step hmm)
  clear hmm
  clear qbx_0 qbx_1 qbx_2 lbx
  by_cases hf : n1 ≤ 20 ∧ n2 ≤ 50 ∧ n3 ≤ 80
  case neg =>
    rw [decide_eq_false hf]
    go_wp2_with fail
    refine (awake6_any _).mono ?_
    rintro e wq51 ⟨rfl, hmm⟩
    replace HS := Lib.hid (HS.out.step hmm)
    go_wp2_with fail
    go_ret
    exact ⟨rfl, (HS.out.now).2.2.2⟩
  case pos =>
    rw [decide_eq_true hf]
    obtain ⟨f1, f2, f3⟩ := hf
    by_cases hl : n ≤ 1500
    case neg =>
      have z1 : decide ((1500 : Int) < (n : Int)) = true := by simp; omega
      go_wp2_with fail
      refine (awake6_any _).mono ?_
      rintro e wq51 ⟨rfl, hmm⟩
      replace HS := Lib.hid (HS.out.step hmm)
      go_wp2_with fail
      go_ret
      exact ⟨rfl, (HS.out.now).2.2.2⟩
    case pos =>
      have z1 : decide ((1500 : Int) < (n : Int)) = false := by simp; omega
      cases fix
      case false =>
        replace HS := Lib.hid ((Ev.rd ((HS.out.now).2.1)).and HS.out)
        have HNN := HN
        have HBB := HB
        have hbbx := (HS.out.now).2.1
        have qbx_0 := hbbx.cell 0 rfl
        have qbx_1 := hbbx.cell 1 rfl
        have qbx_2 := hbbx.cell 2 rfl
        have lbx := hbbx.lt
        clear hbbx
        by_cases hmay : May G
        case neg =>
          have HMAY := Lib.hid hmay
          clear hmay
          by_cases hok : OkG b
          case neg =>
            have HOK := Lib.hid hok
            clear hok
            go_wp2_with fail
            refine (encode_any G _ a1 n1 d1 a2 n2 d2 a3 n3 d3 ((HS.out.now).2.2.2.1)).mono ?_
            rintro e wq60 hp
            rcases hp with ⟨hno, _⟩ | ⟨_, rfl, hmm⟩
            case inl => exact absurd hno HMAY.out
            replace HS := Lib.hid (HS.out.step hmm)
            clear hmm
            clear qbx_0 qbx_1 qbx_2 lbx
            have hbbx := (HS.out.now).2.1
            have qbx_0 := hbbx.cell 0 rfl
            have qbx_1 := hbbx.cell 1 rfl
            have qbx_2 := hbbx.cell 2 rfl
            have lbx := hbbx.lt
            clear hbbx
            go_wp2_with fail
            refine (rfile_any G _ a1 n1 d1 a2 n2 d2 a3 n3 d3 ((HS.out.now).2.2.2.1) (by omega) (by omega) (by omega)).mono ?_
            rintro e wq61 hp
            rcases hp with ⟨hno, _⟩ | ⟨_, rfl, hmm⟩
            case inl => exact absurd hno HMAY.out
            replace HS := Lib.hid (HS.out.step hmm)
            clear hmm
            clear qbx_0 qbx_1 qbx_2 lbx
            go_wp2_with fail
            refine (decode_any _ a n c b HNN.out ((HS.out.now).1) HBB.out (by omega)).mono ?_
            rintro e wq62 hp
            rcases hp with ⟨hno, _⟩ | ⟨_, rfl, hmm⟩
            case inl => exact absurd hno HOK.out
            replace HS := Lib.hid (HS.out.step hmm)
            clear hmm
            go_upto_region 10 with fail
            obtain ⟨bu, hbu⟩ : ∃ b, wq62.heap.size = b := ⟨_, rfl⟩
            obtain ⟨wq2, hwq2⟩ : ∃ W, World.alloc wq62 (.cells #[.slice none 0 0, .slice none 0 0, .slice none 0 0] 26) = W := ⟨_, rfl⟩
            have hBbu : Blk wq2 bu 26 [.slice none 0 0, .slice none 0 0, .slice none 0 0] := by rw [← hwq2, ← hbu]; exact Blk.new _ 26 [.slice none 0 0, .slice none 0 0, .slice none 0 0]
            have hzbu : wq2.heap.size = bu + 1 := by rw [← hwq2, ← hbu]; exact heap_size_alloc _ _
            replace HS := Lib.hid (HS.out.step (w' := wq2) (by rw [← hwq2]; exact Mod.alloc _ _ _))
            replace HS := Lib.hid ((Ev.blk hBbu).and HS.out)
            try rw [hwq2]
            try rw [hbu]
            clear hzbu hBbu hbu hwq2
            go_wp2_with fail
            refine (rread_any _ a n c b HNN.out ((HS.out.now).2.1) HBB.out (by omega)).mono ?_
            rintro e wq63 hp
            rcases hp with ⟨hno, _⟩ | ⟨_, rfl, hmm⟩
            case inl => exact absurd hno HOK.out
            replace HS := Lib.hid (HS.out.step hmm)
            clear hmm
            go_upto_region 11 with fail
            obtain ⟨bv, hbv⟩ : ∃ b, wq63.heap.size = b := ⟨_, rfl⟩
            obtain ⟨wq3, hwq3⟩ : ∃ W, World.alloc wq63 (.cells #[.slice none 0 0, .slice none 0 0, .slice none 0 0] 26) = W := ⟨_, rfl⟩
            have hBbv : Blk wq3 bv 26 [.slice none 0 0, .slice none 0 0, .slice none 0 0] := by rw [← hwq3, ← hbv]; exact Blk.new _ 26 [.slice none 0 0, .slice none 0 0, .slice none 0 0]
            have hzbv : wq3.heap.size = bv + 1 := by rw [← hwq3, ← hbv]; exact heap_size_alloc _ _
            replace HS := Lib.hid (HS.out.step (w' := wq3) (by rw [← hwq3]; exact Mod.alloc _ _ _))
            replace HS := Lib.hid ((Ev.blk hBbv).and HS.out)
            try rw [hwq3]
            try rw [hbv]
            clear hzbv hBbv hbv hwq3
            have hbbx := (HS.out.now).2.2.2.1
            have qbx_0 := hbbx.cell 0 rfl
            have qbx_1 := hbbx.cell 1 rfl
            have qbx_2 := hbbx.cell 2 rfl
            have lbx := hbbx.lt
            clear hbbx
            have hbbu := (HS.out.now).2.1
            have qbu_0 := hbbu.cell 0 rfl
            have qbu_1 := hbbu.cell 1 rfl
            have qbu_2 := hbbu.cell 2 rfl
            have lbu := hbbu.lt
            clear hbbu
            have hbbv := (HS.out.now).1
            have qbv_0 := hbbv.cell 0 rfl
            have qbv_1 := hbbv.cell 1 rfl
            have qbv_2 := hbbv.cell 2 rfl
            have lbv := hbbv.lt
            clear hbbv
            have k0 := run_strS wq3 27 9 5 Try.underlying27 Try.underlying5 Try.underlying9 ((show Rd wq3 1 (.slice none 0 0) 0 (([] : List Int).map (Value.int .u8)) from Rd.nil _ _))
            have k1 := run_strS wq3 27 9 5 Try.underlying27 Try.underlying5 Try.underlying9 ((show Rd wq3 1 (.slice none 0 0) 0 (([] : List Int).map (Value.int .u8)) from Rd.nil _ _))
            obtain ⟨sx, hsx⟩ : ∃ z, strOf ([] : List Int) = z := ⟨_, rfl⟩
            rw [hsx] at k0 k1
            clear hsx
            have hxy : (sx.toList == sx.toList) = true := by simp
            go_wp2_with fail
            refine (same2_any ⟨[], [], []⟩ ⟨[], [], []⟩ true (Lib.hid ⟨fun _ => rfl, fun _ => rfl⟩) _ none 0 0 none 0 0 none 0 0 ⟨rfl, rfl, rfl, Rd.nil _ _, Rd.nil _ _, Rd.nil _ _⟩ none 0 0 none 0 0 none 0 0 ⟨rfl, rfl, rfl, Rd.nil _ _, Rd.nil _ _, Rd.nil _ _⟩ (by omega) (by omega) (by omega)).mono ?_
            rintro e wq64 ⟨rfl, hmm⟩
            replace HS := Lib.hid (HS.out.step hmm)
            clear hmm
            clear qbx_0 qbx_1 qbx_2 lbx qbu_0 qbu_1 qbu_2 lbu qbv_0 qbv_1 qbv_2 lbv
            go_wp2_with fail
            refine (awake6_any _).mono ?_
            rintro e wq65 ⟨rfl, hmm⟩
            replace HS := Lib.hid (HS.out.step hmm)
            go_wp2_with fail
            go_ret
            exact ⟨rfl, (HS.out.now).2.2.2.2.2.2⟩
          case pos =>
            have HOK := Lib.hid hok
            clear hok
            go_wp2_with fail
            refine (encode_any G _ a1 n1 d1 a2 n2 d2 a3 n3 d3 ((HS.out.now).2.2.2.1)).mono ?_
            rintro e wq60 hp
            rcases hp with ⟨hno, _⟩ | ⟨_, rfl, hmm⟩
            case inl => exact absurd hno HMAY.out
            replace HS := Lib.hid (HS.out.step hmm)
            clear hmm
            clear qbx_0 qbx_1 qbx_2 lbx
            have hbbx := (HS.out.now).2.1
            have qbx_0 := hbbx.cell 0 rfl
            have qbx_1 := hbbx.cell 1 rfl
            have qbx_2 := hbbx.cell 2 rfl
            have lbx := hbbx.lt
            clear hbbx
            go_wp2_with fail
            refine (rfile_any G _ a1 n1 d1 a2 n2 d2 a3 n3 d3 ((HS.out.now).2.2.2.1) (by omega) (by omega) (by omega)).mono ?_
            rintro e wq61 hp
            rcases hp with ⟨hno, _⟩ | ⟨_, rfl, hmm⟩
            case inl => exact absurd hno HMAY.out
            replace HS := Lib.hid (HS.out.step hmm)
            clear hmm
            clear qbx_0 qbx_1 qbx_2 lbx
            go_wp2_with fail
            refine (decode_any _ a n c b HNN.out ((HS.out.now).1) HBB.out (by omega)).mono ?_
            rintro e wq62 hp
            rcases hp with ⟨_, b1, m1, v1, b2, m2, v2, b3, m3, v3, rfl, hg, hmm⟩ | ⟨hno, _⟩
            case inr => exact absurd HOK.out hno
            replace HS := Lib.hid (HS.out.step hmm)
            clear hmm
            replace HS := Lib.hid ((Ev.gv hg).and HS.out)
            clear hg
            go_upto_region 10 with fail
            obtain ⟨bu, hbu⟩ : ∃ b, wq62.heap.size = b := ⟨_, rfl⟩
            obtain ⟨wq4, hwq4⟩ : ∃ W, World.alloc wq62 (.cells #[.slice b1 m1 v1, .slice b2 m2 v2, .slice b3 m3 v3] 26) = W := ⟨_, rfl⟩
            have hBbu : Blk wq4 bu 26 [.slice b1 m1 v1, .slice b2 m2 v2, .slice b3 m3 v3] := by rw [← hwq4, ← hbu]; exact Blk.new _ 26 [.slice b1 m1 v1, .slice b2 m2 v2, .slice b3 m3 v3]
            have hzbu : wq4.heap.size = bu + 1 := by rw [← hwq4, ← hbu]; exact heap_size_alloc _ _
            replace HS := Lib.hid (HS.out.step (w' := wq4) (by rw [← hwq4]; exact Mod.alloc _ _ _))
            replace HS := Lib.hid ((Ev.blk hBbu).and HS.out)
            try rw [hwq4]
            try rw [hbu]
            clear hzbu hBbu hbu hwq4
            go_wp2_with fail
            refine (rread_any _ a n c b HNN.out ((HS.out.now).2.2.1) HBB.out (by omega)).mono ?_
            rintro e wq63 hp
            rcases hp with ⟨_, e1, l1, g1, e2, l2, g2, e3, l3, g3, rfl, hg, hmm⟩ | ⟨hno, _⟩
            case inr => exact absurd HOK.out hno
            replace HS := Lib.hid (HS.out.step hmm)
            clear hmm
            replace HS := Lib.hid ((Ev.gv hg).and HS.out)
            clear hg
            go_upto_region 11 with fail
            obtain ⟨bv, hbv⟩ : ∃ b, wq63.heap.size = b := ⟨_, rfl⟩
            obtain ⟨wq5, hwq5⟩ : ∃ W, World.alloc wq63 (.cells #[.slice e1 l1 g1, .slice e2 l2 g2, .slice e3 l3 g3] 26) = W := ⟨_, rfl⟩
            have hBbv : Blk wq5 bv 26 [.slice e1 l1 g1, .slice e2 l2 g2, .slice e3 l3 g3] := by rw [← hwq5, ← hbv]; exact Blk.new _ 26 [.slice e1 l1 g1, .slice e2 l2 g2, .slice e3 l3 g3]
            have hzbv : wq5.heap.size = bv + 1 := by rw [← hwq5, ← hbv]; exact heap_size_alloc _ _
            replace HS := Lib.hid (HS.out.step (w' := wq5) (by rw [← hwq5]; exact Mod.alloc _ _ _))
            replace HS := Lib.hid ((Ev.blk hBbv).and HS.out)
            try rw [hwq5]
            try rw [hbv]
            clear hzbv hBbv hbv hwq5
            have hbbx := (HS.out.now).2.2.2.2.2.1
            have qbx_0 := hbbx.cell 0 rfl
            have qbx_1 := hbbx.cell 1 rfl
            have qbx_2 := hbbx.cell 2 rfl
            have lbx := hbbx.lt
            clear hbbx
            have hbbu := (HS.out.now).2.2.1
            have qbu_0 := hbbu.cell 0 rfl
            have qbu_1 := hbbu.cell 1 rfl
            have qbu_2 := hbbu.cell 2 rfl
            have lbu := hbbu.lt
            clear hbbu
            have hbbv := (HS.out.now).1
            have qbv_0 := hbbv.cell 0 rfl
            have qbv_1 := hbbv.cell 1 rfl
            have qbv_2 := hbbv.cell 2 rfl
            have lbv := hbbv.lt
            clear hbbv
            have k0 := run_strS wq5 27 9 5 Try.underlying27 Try.underlying5 Try.underlying9 ((show Rd wq5 1 (.slice none 0 0) 0 (([] : List Int).map (Value.int .u8)) from Rd.nil _ _))
            have k1 := run_strS wq5 27 9 5 Try.underlying27 Try.underlying5 Try.underlying9 ((show Rd wq5 1 (.slice none 0 0) 0 (([] : List Int).map (Value.int .u8)) from Rd.nil _ _))
            obtain ⟨sx, hsx⟩ : ∃ z, strOf ([] : List Int) = z := ⟨_, rfl⟩
            rw [hsx] at k0 k1
            clear hsx
            have hxy : (sx.toList == sx.toList) = true := by simp
            go_wp2_with fail
            have hgu := (HS.out.now).2.2.2.1
            have hgw := (HS.out.now).2.1
            have hmo := HOK.out.1.1
            refine (same2_any (parseG b) (parseG b) true (Lib.hid ⟨fun _ => rfl, fun _ => rfl⟩) _ b1 m1 v1 b2 m2 v2 b3 m3 v3 hgu e1 l1 g1 e2 l2 g2 e3 l3 g3 hgw (by have h1 := hgu.n; have h2 := hmo.1.2; omega) (by have h1 := hgu.e; have h2 := hmo.2.1; omega) (by have h1 := hgu.b; have h2 := hmo.2.2; omega)).mono ?_
            rintro e wq64 ⟨rfl, hmm⟩
            replace HS := Lib.hid (HS.out.step hmm)
            clear hmm
            clear qbx_0 qbx_1 qbx_2 lbx qbu_0 qbu_1 qbu_2 lbu qbv_0 qbv_1 qbv_2 lbv
            go_wp2_with fail
            refine (awake6_any _).mono ?_
            rintro e wq65 ⟨rfl, hmm⟩
            replace HS := Lib.hid (HS.out.step hmm)
            go_wp2_with fail
            go_ret
            exact ⟨rfl, (HS.out.now).2.2.2.2.2.2.2.2⟩
        case pos =>
          have HMAY := Lib.hid hmay
          clear hmay
          by_cases hok : OkG b
          case neg =>
            have HOK := Lib.hid hok
            clear hok
            go_wp2_with fail
            refine (encode_any G _ a1 n1 d1 a2 n2 d2 a3 n3 d3 ((HS.out.now).2.2.2.1)).mono ?_
            rintro e wq60 hp
            rcases hp with ⟨_, x1, y1, rfl, ho, hmm⟩ | ⟨hno, _⟩
            case inr => exact absurd HMAY.out hno
            obtain ⟨L1, hL1⟩ : ∃ k, (fileG G).length = k := ⟨_, rfl⟩
            rw [hL1] at ho ⊢
            have HL1 := Lib.hid hL1
            clear hL1
            replace HS := Lib.hid (HS.out.step hmm)
            clear hmm
            replace HS := Lib.hid ((Ev.rd (Rd.ofOwn ho)).and HS.out)
            clear ho
            clear qbx_0 qbx_1 qbx_2 lbx
            have hbbx := (HS.out.now).2.2.1
            have qbx_0 := hbbx.cell 0 rfl
            have qbx_1 := hbbx.cell 1 rfl
            have qbx_2 := hbbx.cell 2 rfl
            have lbx := hbbx.lt
            clear hbbx
            go_wp2_with fail
            refine (rfile_any G _ a1 n1 d1 a2 n2 d2 a3 n3 d3 ((HS.out.now).2.2.2.2.1) (by omega) (by omega) (by omega)).mono ?_
            rintro e wq61 hp
            rcases hp with ⟨_, x2, y2, rfl, ho, hmm⟩ | ⟨hno, _⟩
            case inr => exact absurd HMAY.out hno
            rw [HL1.out] at ho ⊢
            replace HS := Lib.hid (HS.out.step hmm)
            clear hmm
            clear qbx_0 qbx_1 qbx_2 lbx
            replace HS := Lib.hid ((Ev.rd (Rd.ofOwn ho)).and HS.out)
            clear ho
            go_wp2_with fail
            refine (decode_any _ a n c b HNN.out ((HS.out.now).2.2.1) HBB.out (by omega)).mono ?_
            rintro e wq62 hp
            rcases hp with ⟨hno, _⟩ | ⟨_, rfl, hmm⟩
            case inl => exact absurd hno HOK.out
            replace HS := Lib.hid (HS.out.step hmm)
            clear hmm
            go_upto_region 10 with fail
            obtain ⟨bu, hbu⟩ : ∃ b, wq62.heap.size = b := ⟨_, rfl⟩
            obtain ⟨wq6, hwq6⟩ : ∃ W, World.alloc wq62 (.cells #[.slice none 0 0, .slice none 0 0, .slice none 0 0] 26) = W := ⟨_, rfl⟩
            have hBbu : Blk wq6 bu 26 [.slice none 0 0, .slice none 0 0, .slice none 0 0] := by rw [← hwq6, ← hbu]; exact Blk.new _ 26 [.slice none 0 0, .slice none 0 0, .slice none 0 0]
            have hzbu : wq6.heap.size = bu + 1 := by rw [← hwq6, ← hbu]; exact heap_size_alloc _ _
            replace HS := Lib.hid (HS.out.step (w' := wq6) (by rw [← hwq6]; exact Mod.alloc _ _ _))
            replace HS := Lib.hid ((Ev.blk hBbu).and HS.out)
            try rw [hwq6]
            try rw [hbu]
            clear hzbu hBbu hbu hwq6
            go_wp2_with fail
            refine (rread_any _ a n c b HNN.out ((HS.out.now).2.2.2.1) HBB.out (by omega)).mono ?_
            rintro e wq63 hp
            rcases hp with ⟨hno, _⟩ | ⟨_, rfl, hmm⟩
            case inl => exact absurd hno HOK.out
            replace HS := Lib.hid (HS.out.step hmm)
            clear hmm
            go_upto_region 11 with fail
            obtain ⟨bv, hbv⟩ : ∃ b, wq63.heap.size = b := ⟨_, rfl⟩
            obtain ⟨wq7, hwq7⟩ : ∃ W, World.alloc wq63 (.cells #[.slice none 0 0, .slice none 0 0, .slice none 0 0] 26) = W := ⟨_, rfl⟩
            have hBbv : Blk wq7 bv 26 [.slice none 0 0, .slice none 0 0, .slice none 0 0] := by rw [← hwq7, ← hbv]; exact Blk.new _ 26 [.slice none 0 0, .slice none 0 0, .slice none 0 0]
            have hzbv : wq7.heap.size = bv + 1 := by rw [← hwq7, ← hbv]; exact heap_size_alloc _ _
            replace HS := Lib.hid (HS.out.step (w' := wq7) (by rw [← hwq7]; exact Mod.alloc _ _ _))
            replace HS := Lib.hid ((Ev.blk hBbv).and HS.out)
            try rw [hwq7]
            try rw [hbv]
            clear hzbv hBbv hbv hwq7
            have hbbx := (HS.out.now).2.2.2.2.2.1
            have qbx_0 := hbbx.cell 0 rfl
            have qbx_1 := hbbx.cell 1 rfl
            have qbx_2 := hbbx.cell 2 rfl
            have lbx := hbbx.lt
            clear hbbx
            have hbbu := (HS.out.now).2.1
            have qbu_0 := hbbu.cell 0 rfl
            have qbu_1 := hbbu.cell 1 rfl
            have qbu_2 := hbbu.cell 2 rfl
            have lbu := hbbu.lt
            clear hbbu
            have hbbv := (HS.out.now).1
            have qbv_0 := hbbv.cell 0 rfl
            have qbv_1 := hbbv.cell 1 rfl
            have qbv_2 := hbbv.cell 2 rfl
            have lbv := hbbv.lt
            clear hbbv
            have k0 := run_strS wq7 27 9 5 Try.underlying27 Try.underlying5 Try.underlying9 ((HS.out.now).2.2.2.1)
            have k1 := run_strS wq7 27 9 5 Try.underlying27 Try.underlying5 Try.underlying9 ((HS.out.now).2.2.1)
            obtain ⟨sx, hsx⟩ : ∃ z, strOf (fileG G) = z := ⟨_, rfl⟩
            rw [hsx] at k0 k1
            clear hsx
            have hxy : (sx.toList == sx.toList) = true := by simp
            go_wp2_with fail
            refine (same2_any ⟨[], [], []⟩ ⟨[], [], []⟩ true (Lib.hid ⟨fun _ => rfl, fun _ => rfl⟩) _ none 0 0 none 0 0 none 0 0 ⟨rfl, rfl, rfl, Rd.nil _ _, Rd.nil _ _, Rd.nil _ _⟩ none 0 0 none 0 0 none 0 0 ⟨rfl, rfl, rfl, Rd.nil _ _, Rd.nil _ _, Rd.nil _ _⟩ (by omega) (by omega) (by omega)).mono ?_
            rintro e wq64 ⟨rfl, hmm⟩
            replace HS := Lib.hid (HS.out.step hmm)
            clear hmm
            clear qbx_0 qbx_1 qbx_2 lbx qbu_0 qbu_1 qbu_2 lbu qbv_0 qbv_1 qbv_2 lbv
            go_wp2_with fail
            refine (awake6_any _).mono ?_
            rintro e wq65 ⟨rfl, hmm⟩
            replace HS := Lib.hid (HS.out.step hmm)
            go_wp2_with fail
            go_ret
            exact ⟨rfl, (HS.out.now).2.2.2.2.2.2.2.2⟩
          case pos =>
            have HOK := Lib.hid hok
            clear hok
            go_wp2_with fail
            refine (encode_any G _ a1 n1 d1 a2 n2 d2 a3 n3 d3 ((HS.out.now).2.2.2.1)).mono ?_
            rintro e wq60 hp
            rcases hp with ⟨_, x1, y1, rfl, ho, hmm⟩ | ⟨hno, _⟩
            case inr => exact absurd HMAY.out hno
            obtain ⟨L1, hL1⟩ : ∃ k, (fileG G).length = k := ⟨_, rfl⟩
            rw [hL1] at ho ⊢
            have HL1 := Lib.hid hL1
            clear hL1
            replace HS := Lib.hid (HS.out.step hmm)
            clear hmm
            replace HS := Lib.hid ((Ev.rd (Rd.ofOwn ho)).and HS.out)
            clear ho
            clear qbx_0 qbx_1 qbx_2 lbx
            have hbbx := (HS.out.now).2.2.1
            have qbx_0 := hbbx.cell 0 rfl
            have qbx_1 := hbbx.cell 1 rfl
            have qbx_2 := hbbx.cell 2 rfl
            have lbx := hbbx.lt
            clear hbbx
            go_wp2_with fail
            refine (rfile_any G _ a1 n1 d1 a2 n2 d2 a3 n3 d3 ((HS.out.now).2.2.2.2.1) (by omega) (by omega) (by omega)).mono ?_
            rintro e wq61 hp
            rcases hp with ⟨_, x2, y2, rfl, ho, hmm⟩ | ⟨hno, _⟩
            case inr => exact absurd HMAY.out hno
            rw [HL1.out] at ho ⊢
            replace HS := Lib.hid (HS.out.step hmm)
            clear hmm
            clear qbx_0 qbx_1 qbx_2 lbx
            replace HS := Lib.hid ((Ev.rd (Rd.ofOwn ho)).and HS.out)
            clear ho
            go_wp2_with fail
            refine (decode_any _ a n c b HNN.out ((HS.out.now).2.2.1) HBB.out (by omega)).mono ?_
            rintro e wq62 hp
            rcases hp with ⟨_, b1, m1, v1, b2, m2, v2, b3, m3, v3, rfl, hg, hmm⟩ | ⟨hno, _⟩
            case inr => exact absurd HOK.out hno
            replace HS := Lib.hid (HS.out.step hmm)
            clear hmm
            replace HS := Lib.hid ((Ev.gv hg).and HS.out)
            clear hg
            go_upto_region 10 with fail
            obtain ⟨bu, hbu⟩ : ∃ b, wq62.heap.size = b := ⟨_, rfl⟩
            obtain ⟨wq8, hwq8⟩ : ∃ W, World.alloc wq62 (.cells #[.slice b1 m1 v1, .slice b2 m2 v2, .slice b3 m3 v3] 26) = W := ⟨_, rfl⟩
            have hBbu : Blk wq8 bu 26 [.slice b1 m1 v1, .slice b2 m2 v2, .slice b3 m3 v3] := by rw [← hwq8, ← hbu]; exact Blk.new _ 26 [.slice b1 m1 v1, .slice b2 m2 v2, .slice b3 m3 v3]
            have hzbu : wq8.heap.size = bu + 1 := by rw [← hwq8, ← hbu]; exact heap_size_alloc _ _
            replace HS := Lib.hid (HS.out.step (w' := wq8) (by rw [← hwq8]; exact Mod.alloc _ _ _))
            replace HS := Lib.hid ((Ev.blk hBbu).and HS.out)
            try rw [hwq8]
            try rw [hbu]
            clear hzbu hBbu hbu hwq8
            go_wp2_with fail
            refine (rread_any _ a n c b HNN.out ((HS.out.now).2.2.2.2.1) HBB.out (by omega)).mono ?_
            rintro e wq63 hp
            rcases hp with ⟨_, e1, l1, g1, e2, l2, g2, e3, l3, g3, rfl, hg, hmm⟩ | ⟨hno, _⟩
            case inr => exact absurd HOK.out hno
            replace HS := Lib.hid (HS.out.step hmm)
            clear hmm
            replace HS := Lib.hid ((Ev.gv hg).and HS.out)
            clear hg
            go_upto_region 11 with fail
            obtain ⟨bv, hbv⟩ : ∃ b, wq63.heap.size = b := ⟨_, rfl⟩
            obtain ⟨wq9, hwq9⟩ : ∃ W, World.alloc wq63 (.cells #[.slice e1 l1 g1, .slice e2 l2 g2, .slice e3 l3 g3] 26) = W := ⟨_, rfl⟩
            have hBbv : Blk wq9 bv 26 [.slice e1 l1 g1, .slice e2 l2 g2, .slice e3 l3 g3] := by rw [← hwq9, ← hbv]; exact Blk.new _ 26 [.slice e1 l1 g1, .slice e2 l2 g2, .slice e3 l3 g3]
            have hzbv : wq9.heap.size = bv + 1 := by rw [← hwq9, ← hbv]; exact heap_size_alloc _ _
            replace HS := Lib.hid (HS.out.step (w' := wq9) (by rw [← hwq9]; exact Mod.alloc _ _ _))
            replace HS := Lib.hid ((Ev.blk hBbv).and HS.out)
            try rw [hwq9]
            try rw [hbv]
            clear hzbv hBbv hbv hwq9
            have hbbx := (HS.out.now).2.2.2.2.2.2.2.1
            have qbx_0 := hbbx.cell 0 rfl
            have qbx_1 := hbbx.cell 1 rfl
            have qbx_2 := hbbx.cell 2 rfl
            have lbx := hbbx.lt
            clear hbbx
            have hbbu := (HS.out.now).2.2.1
            have qbu_0 := hbbu.cell 0 rfl
            have qbu_1 := hbbu.cell 1 rfl
            have qbu_2 := hbbu.cell 2 rfl
            have lbu := hbbu.lt
            clear hbbu
            have hbbv := (HS.out.now).1
            have qbv_0 := hbbv.cell 0 rfl
            have qbv_1 := hbbv.cell 1 rfl
            have qbv_2 := hbbv.cell 2 rfl
            have lbv := hbbv.lt
            clear hbbv
            have k0 := run_strS wq9 27 9 5 Try.underlying27 Try.underlying5 Try.underlying9 ((HS.out.now).2.2.2.2.2.1)
            have k1 := run_strS wq9 27 9 5 Try.underlying27 Try.underlying5 Try.underlying9 ((HS.out.now).2.2.2.2.1)
            obtain ⟨sx, hsx⟩ : ∃ z, strOf (fileG G) = z := ⟨_, rfl⟩
            rw [hsx] at k0 k1
            clear hsx
            have hxy : (sx.toList == sx.toList) = true := by simp
            go_wp2_with fail
            have hgu := (HS.out.now).2.2.2.1
            have hgw := (HS.out.now).2.1
            have hmo := HOK.out.1.1
            refine (same2_any (parseG b) (parseG b) true (Lib.hid ⟨fun _ => rfl, fun _ => rfl⟩) _ b1 m1 v1 b2 m2 v2 b3 m3 v3 hgu e1 l1 g1 e2 l2 g2 e3 l3 g3 hgw (by have h1 := hgu.n; have h2 := hmo.1.2; omega) (by have h1 := hgu.e; have h2 := hmo.2.1; omega) (by have h1 := hgu.b; have h2 := hmo.2.2; omega)).mono ?_
            rintro e wq64 ⟨rfl, hmm⟩
            replace HS := Lib.hid (HS.out.step hmm)
            clear hmm
            clear qbx_0 qbx_1 qbx_2 lbx qbu_0 qbu_1 qbu_2 lbu qbv_0 qbv_1 qbv_2 lbv
            go_wp2_with fail
            refine (awake6_any _).mono ?_
            rintro e wq65 ⟨rfl, hmm⟩
            replace HS := Lib.hid (HS.out.step hmm)
            go_wp2_with fail
            go_ret
            exact ⟨rfl, (HS.out.now).2.2.2.2.2.2.2.2.2.2⟩
      case true =>
        by_cases h4 : 4 < n
        case neg =>
          have z4 : decide ((4 : Int) < (n : Int)) = false := by simp; omega
          replace HS := Lib.hid ((Ev.rd ((HS.out.now).2.1)).and HS.out)
          have HNN := HN
          have HBB := HB
          have hbbx := (HS.out.now).2.1
          have qbx_0 := hbbx.cell 0 rfl
          have qbx_1 := hbbx.cell 1 rfl
          have qbx_2 := hbbx.cell 2 rfl
          have lbx := hbbx.lt
          clear hbbx
          by_cases hmay : May G
          case neg =>
            have HMAY := Lib.hid hmay
            clear hmay
            by_cases hok : OkG b
            case neg =>
              have HOK := Lib.hid hok
              clear hok
              go_wp2_with fail
              refine (encode_any G _ a1 n1 d1 a2 n2 d2 a3 n3 d3 ((HS.out.now).2.2.2.1)).mono ?_
              rintro e wq60 hp
              rcases hp with ⟨hno, _⟩ | ⟨_, rfl, hmm⟩
              case inl => exact absurd hno HMAY.out
              replace HS := Lib.hid (HS.out.step hmm)
              clear hmm
              clear qbx_0 qbx_1 qbx_2 lbx
              have hbbx := (HS.out.now).2.1
              have qbx_0 := hbbx.cell 0 rfl
              have qbx_1 := hbbx.cell 1 rfl
              have qbx_2 := hbbx.cell 2 rfl
              have lbx := hbbx.lt
              clear hbbx
              go_wp2_with fail
              refine (rfile_any G _ a1 n1 d1 a2 n2 d2 a3 n3 d3 ((HS.out.now).2.2.2.1) (by omega) (by omega) (by omega)).mono ?_
              rintro e wq61 hp
              rcases hp with ⟨hno, _⟩ | ⟨_, rfl, hmm⟩
              case inl => exact absurd hno HMAY.out
              replace HS := Lib.hid (HS.out.step hmm)
              clear hmm
              clear qbx_0 qbx_1 qbx_2 lbx
              go_wp2_with fail
              refine (decode_any _ a n c b HNN.out ((HS.out.now).1) HBB.out (by omega)).mono ?_
              rintro e wq62 hp
              rcases hp with ⟨hno, _⟩ | ⟨_, rfl, hmm⟩
              case inl => exact absurd hno HOK.out
              replace HS := Lib.hid (HS.out.step hmm)
              clear hmm
              go_upto_region 10 with fail
              obtain ⟨bu, hbu⟩ : ∃ b, wq62.heap.size = b := ⟨_, rfl⟩
              obtain ⟨wq10, hwq10⟩ : ∃ W, World.alloc wq62 (.cells #[.slice none 0 0, .slice none 0 0, .slice none 0 0] 26) = W := ⟨_, rfl⟩
              have hBbu : Blk wq10 bu 26 [.slice none 0 0, .slice none 0 0, .slice none 0 0] := by rw [← hwq10, ← hbu]; exact Blk.new _ 26 [.slice none 0 0, .slice none 0 0, .slice none 0 0]
              have hzbu : wq10.heap.size = bu + 1 := by rw [← hwq10, ← hbu]; exact heap_size_alloc _ _
              replace HS := Lib.hid (HS.out.step (w' := wq10) (by rw [← hwq10]; exact Mod.alloc _ _ _))
              replace HS := Lib.hid ((Ev.blk hBbu).and HS.out)
              try rw [hwq10]
              try rw [hbu]
              clear hzbu hBbu hbu hwq10
              go_wp2_with fail
              refine (rread_any _ a n c b HNN.out ((HS.out.now).2.1) HBB.out (by omega)).mono ?_
              rintro e wq63 hp
              rcases hp with ⟨hno, _⟩ | ⟨_, rfl, hmm⟩
              case inl => exact absurd hno HOK.out
              replace HS := Lib.hid (HS.out.step hmm)
              clear hmm
              go_upto_region 11 with fail
              obtain ⟨bv, hbv⟩ : ∃ b, wq63.heap.size = b := ⟨_, rfl⟩
              obtain ⟨wq11, hwq11⟩ : ∃ W, World.alloc wq63 (.cells #[.slice none 0 0, .slice none 0 0, .slice none 0 0] 26) = W := ⟨_, rfl⟩
              have hBbv : Blk wq11 bv 26 [.slice none 0 0, .slice none 0 0, .slice none 0 0] := by rw [← hwq11, ← hbv]; exact Blk.new _ 26 [.slice none 0 0, .slice none 0 0, .slice none 0 0]
              have hzbv : wq11.heap.size = bv + 1 := by rw [← hwq11, ← hbv]; exact heap_size_alloc _ _
              replace HS := Lib.hid (HS.out.step (w' := wq11) (by rw [← hwq11]; exact Mod.alloc _ _ _))
              replace HS := Lib.hid ((Ev.blk hBbv).and HS.out)
              try rw [hwq11]
              try rw [hbv]
              clear hzbv hBbv hbv hwq11
              have hbbx := (HS.out.now).2.2.2.1
              have qbx_0 := hbbx.cell 0 rfl
              have qbx_1 := hbbx.cell 1 rfl
              have qbx_2 := hbbx.cell 2 rfl
              have lbx := hbbx.lt
              clear hbbx
              have hbbu := (HS.out.now).2.1
              have qbu_0 := hbbu.cell 0 rfl
              have qbu_1 := hbbu.cell 1 rfl
              have qbu_2 := hbbu.cell 2 rfl
              have lbu := hbbu.lt
              clear hbbu
              have hbbv := (HS.out.now).1
              have qbv_0 := hbbv.cell 0 rfl
              have qbv_1 := hbbv.cell 1 rfl
              have qbv_2 := hbbv.cell 2 rfl
              have lbv := hbbv.lt
              clear hbbv
              have k0 := run_strS wq11 27 9 5 Try.underlying27 Try.underlying5 Try.underlying9 ((show Rd wq11 1 (.slice none 0 0) 0 (([] : List Int).map (Value.int .u8)) from Rd.nil _ _))
              have k1 := run_strS wq11 27 9 5 Try.underlying27 Try.underlying5 Try.underlying9 ((show Rd wq11 1 (.slice none 0 0) 0 (([] : List Int).map (Value.int .u8)) from Rd.nil _ _))
              obtain ⟨sx, hsx⟩ : ∃ z, strOf ([] : List Int) = z := ⟨_, rfl⟩
              rw [hsx] at k0 k1
              clear hsx
              have hxy : (sx.toList == sx.toList) = true := by simp
              go_wp2_with fail
              refine (same2_any ⟨[], [], []⟩ ⟨[], [], []⟩ true (Lib.hid ⟨fun _ => rfl, fun _ => rfl⟩) _ none 0 0 none 0 0 none 0 0 ⟨rfl, rfl, rfl, Rd.nil _ _, Rd.nil _ _, Rd.nil _ _⟩ none 0 0 none 0 0 none 0 0 ⟨rfl, rfl, rfl, Rd.nil _ _, Rd.nil _ _, Rd.nil _ _⟩ (by omega) (by omega) (by omega)).mono ?_
              rintro e wq64 ⟨rfl, hmm⟩
              replace HS := Lib.hid (HS.out.step hmm)
              clear hmm
              clear qbx_0 qbx_1 qbx_2 lbx qbu_0 qbu_1 qbu_2 lbu qbv_0 qbv_1 qbv_2 lbv
              go_wp2_with fail
              refine (awake6_any _).mono ?_
              rintro e wq65 ⟨rfl, hmm⟩
              replace HS := Lib.hid (HS.out.step hmm)
              go_wp2_with fail
              go_ret
              exact ⟨rfl, (HS.out.now).2.2.2.2.2.2⟩
            case pos =>
              have HOK := Lib.hid hok
              clear hok
              go_wp2_with fail
              refine (encode_any G _ a1 n1 d1 a2 n2 d2 a3 n3 d3 ((HS.out.now).2.2.2.1)).mono ?_
              rintro e wq60 hp
              rcases hp with ⟨hno, _⟩ | ⟨_, rfl, hmm⟩
              case inl => exact absurd hno HMAY.out
              replace HS := Lib.hid (HS.out.step hmm)
              clear hmm
              clear qbx_0 qbx_1 qbx_2 lbx
              have hbbx := (HS.out.now).2.1
              have qbx_0 := hbbx.cell 0 rfl
              have qbx_1 := hbbx.cell 1 rfl
              have qbx_2 := hbbx.cell 2 rfl
              have lbx := hbbx.lt
              clear hbbx
              go_wp2_with fail
              refine (rfile_any G _ a1 n1 d1 a2 n2 d2 a3 n3 d3 ((HS.out.now).2.2.2.1) (by omega) (by omega) (by omega)).mono ?_
              rintro e wq61 hp
              rcases hp with ⟨hno, _⟩ | ⟨_, rfl, hmm⟩
              case inl => exact absurd hno HMAY.out
              replace HS := Lib.hid (HS.out.step hmm)
              clear hmm
              clear qbx_0 qbx_1 qbx_2 lbx
              go_wp2_with fail
              refine (decode_any _ a n c b HNN.out ((HS.out.now).1) HBB.out (by omega)).mono ?_
              rintro e wq62 hp
              rcases hp with ⟨_, b1, m1, v1, b2, m2, v2, b3, m3, v3, rfl, hg, hmm⟩ | ⟨hno, _⟩
              case inr => exact absurd HOK.out hno
              replace HS := Lib.hid (HS.out.step hmm)
              clear hmm
              replace HS := Lib.hid ((Ev.gv hg).and HS.out)
              clear hg
              go_upto_region 10 with fail
              obtain ⟨bu, hbu⟩ : ∃ b, wq62.heap.size = b := ⟨_, rfl⟩
              obtain ⟨wq12, hwq12⟩ : ∃ W, World.alloc wq62 (.cells #[.slice b1 m1 v1, .slice b2 m2 v2, .slice b3 m3 v3] 26) = W := ⟨_, rfl⟩
              have hBbu : Blk wq12 bu 26 [.slice b1 m1 v1, .slice b2 m2 v2, .slice b3 m3 v3] := by rw [← hwq12, ← hbu]; exact Blk.new _ 26 [.slice b1 m1 v1, .slice b2 m2 v2, .slice b3 m3 v3]
              have hzbu : wq12.heap.size = bu + 1 := by rw [← hwq12, ← hbu]; exact heap_size_alloc _ _
              replace HS := Lib.hid (HS.out.step (w' := wq12) (by rw [← hwq12]; exact Mod.alloc _ _ _))
              replace HS := Lib.hid ((Ev.blk hBbu).and HS.out)
              try rw [hwq12]
              try rw [hbu]
              clear hzbu hBbu hbu hwq12
              go_wp2_with fail
              refine (rread_any _ a n c b HNN.out ((HS.out.now).2.2.1) HBB.out (by omega)).mono ?_
              rintro e wq63 hp
              rcases hp with ⟨_, e1, l1, g1, e2, l2, g2, e3, l3, g3, rfl, hg, hmm⟩ | ⟨hno, _⟩
              case inr => exact absurd HOK.out hno
              replace HS := Lib.hid (HS.out.step hmm)
              clear hmm
              replace HS := Lib.hid ((Ev.gv hg).and HS.out)
              clear hg
              go_upto_region 11 with fail
              obtain ⟨bv, hbv⟩ : ∃ b, wq63.heap.size = b := ⟨_, rfl⟩
              obtain ⟨wq13, hwq13⟩ : ∃ W, World.alloc wq63 (.cells #[.slice e1 l1 g1, .slice e2 l2 g2, .slice e3 l3 g3] 26) = W := ⟨_, rfl⟩
              have hBbv : Blk wq13 bv 26 [.slice e1 l1 g1, .slice e2 l2 g2, .slice e3 l3 g3] := by rw [← hwq13, ← hbv]; exact Blk.new _ 26 [.slice e1 l1 g1, .slice e2 l2 g2, .slice e3 l3 g3]
              have hzbv : wq13.heap.size = bv + 1 := by rw [← hwq13, ← hbv]; exact heap_size_alloc _ _
              replace HS := Lib.hid (HS.out.step (w' := wq13) (by rw [← hwq13]; exact Mod.alloc _ _ _))
              replace HS := Lib.hid ((Ev.blk hBbv).and HS.out)
              try rw [hwq13]
              try rw [hbv]
              clear hzbv hBbv hbv hwq13
              have hbbx := (HS.out.now).2.2.2.2.2.1
              have qbx_0 := hbbx.cell 0 rfl
              have qbx_1 := hbbx.cell 1 rfl
              have qbx_2 := hbbx.cell 2 rfl
              have lbx := hbbx.lt
              clear hbbx
              have hbbu := (HS.out.now).2.2.1
              have qbu_0 := hbbu.cell 0 rfl
              have qbu_1 := hbbu.cell 1 rfl
              have qbu_2 := hbbu.cell 2 rfl
              have lbu := hbbu.lt
              clear hbbu
              have hbbv := (HS.out.now).1
              have qbv_0 := hbbv.cell 0 rfl
              have qbv_1 := hbbv.cell 1 rfl
              have qbv_2 := hbbv.cell 2 rfl
              have lbv := hbbv.lt
              clear hbbv
              have k0 := run_strS wq13 27 9 5 Try.underlying27 Try.underlying5 Try.underlying9 ((show Rd wq13 1 (.slice none 0 0) 0 (([] : List Int).map (Value.int .u8)) from Rd.nil _ _))
              have k1 := run_strS wq13 27 9 5 Try.underlying27 Try.underlying5 Try.underlying9 ((show Rd wq13 1 (.slice none 0 0) 0 (([] : List Int).map (Value.int .u8)) from Rd.nil _ _))
              obtain ⟨sx, hsx⟩ : ∃ z, strOf ([] : List Int) = z := ⟨_, rfl⟩
              rw [hsx] at k0 k1
              clear hsx
              have hxy : (sx.toList == sx.toList) = true := by simp
              go_wp2_with fail
              have hgu := (HS.out.now).2.2.2.1
              have hgw := (HS.out.now).2.1
              have hmo := HOK.out.1.1
              refine (same2_any (parseG b) (parseG b) true (Lib.hid ⟨fun _ => rfl, fun _ => rfl⟩) _ b1 m1 v1 b2 m2 v2 b3 m3 v3 hgu e1 l1 g1 e2 l2 g2 e3 l3 g3 hgw (by have h1 := hgu.n; have h2 := hmo.1.2; omega) (by have h1 := hgu.e; have h2 := hmo.2.1; omega) (by have h1 := hgu.b; have h2 := hmo.2.2; omega)).mono ?_
              rintro e wq64 ⟨rfl, hmm⟩
              replace HS := Lib.hid (HS.out.step hmm)
              clear hmm
              clear qbx_0 qbx_1 qbx_2 lbx qbu_0 qbu_1 qbu_2 lbu qbv_0 qbv_1 qbv_2 lbv
              go_wp2_with fail
              refine (awake6_any _).mono ?_
              rintro e wq65 ⟨rfl, hmm⟩
              replace HS := Lib.hid (HS.out.step hmm)
              go_wp2_with fail
              go_ret
              exact ⟨rfl, (HS.out.now).2.2.2.2.2.2.2.2⟩
          case pos =>
            have HMAY := Lib.hid hmay
            clear hmay
            by_cases hok : OkG b
            case neg =>
              have HOK := Lib.hid hok
              clear hok
              go_wp2_with fail
              refine (encode_any G _ a1 n1 d1 a2 n2 d2 a3 n3 d3 ((HS.out.now).2.2.2.1)).mono ?_
              rintro e wq60 hp
              rcases hp with ⟨_, x1, y1, rfl, ho, hmm⟩ | ⟨hno, _⟩
              case inr => exact absurd HMAY.out hno
              obtain ⟨L1, hL1⟩ : ∃ k, (fileG G).length = k := ⟨_, rfl⟩
              rw [hL1] at ho ⊢
              have HL1 := Lib.hid hL1
              clear hL1
              replace HS := Lib.hid (HS.out.step hmm)
              clear hmm
              replace HS := Lib.hid ((Ev.rd (Rd.ofOwn ho)).and HS.out)
              clear ho
              clear qbx_0 qbx_1 qbx_2 lbx
              have hbbx := (HS.out.now).2.2.1
              have qbx_0 := hbbx.cell 0 rfl
              have qbx_1 := hbbx.cell 1 rfl
              have qbx_2 := hbbx.cell 2 rfl
              have lbx := hbbx.lt
              clear hbbx
              go_wp2_with fail
              refine (rfile_any G _ a1 n1 d1 a2 n2 d2 a3 n3 d3 ((HS.out.now).2.2.2.2.1) (by omega) (by omega) (by omega)).mono ?_
              rintro e wq61 hp
              rcases hp with ⟨_, x2, y2, rfl, ho, hmm⟩ | ⟨hno, _⟩
              case inr => exact absurd HMAY.out hno
              rw [HL1.out] at ho ⊢
              replace HS := Lib.hid (HS.out.step hmm)
              clear hmm
              clear qbx_0 qbx_1 qbx_2 lbx
              replace HS := Lib.hid ((Ev.rd (Rd.ofOwn ho)).and HS.out)
              clear ho
              go_wp2_with fail
              refine (decode_any _ a n c b HNN.out ((HS.out.now).2.2.1) HBB.out (by omega)).mono ?_
              rintro e wq62 hp
              rcases hp with ⟨hno, _⟩ | ⟨_, rfl, hmm⟩
              case inl => exact absurd hno HOK.out
              replace HS := Lib.hid (HS.out.step hmm)
              clear hmm
              go_upto_region 10 with fail
              obtain ⟨bu, hbu⟩ : ∃ b, wq62.heap.size = b := ⟨_, rfl⟩
              obtain ⟨wq14, hwq14⟩ : ∃ W, World.alloc wq62 (.cells #[.slice none 0 0, .slice none 0 0, .slice none 0 0] 26) = W := ⟨_, rfl⟩
              have hBbu : Blk wq14 bu 26 [.slice none 0 0, .slice none 0 0, .slice none 0 0] := by rw [← hwq14, ← hbu]; exact Blk.new _ 26 [.slice none 0 0, .slice none 0 0, .slice none 0 0]
              have hzbu : wq14.heap.size = bu + 1 := by rw [← hwq14, ← hbu]; exact heap_size_alloc _ _
              replace HS := Lib.hid (HS.out.step (w' := wq14) (by rw [← hwq14]; exact Mod.alloc _ _ _))
              replace HS := Lib.hid ((Ev.blk hBbu).and HS.out)
              try rw [hwq14]
              try rw [hbu]
              clear hzbu hBbu hbu hwq14
              go_wp2_with fail
              refine (rread_any _ a n c b HNN.out ((HS.out.now).2.2.2.1) HBB.out (by omega)).mono ?_
              rintro e wq63 hp
              rcases hp with ⟨hno, _⟩ | ⟨_, rfl, hmm⟩
              case inl => exact absurd hno HOK.out
              replace HS := Lib.hid (HS.out.step hmm)
              clear hmm
              go_upto_region 11 with fail
              obtain ⟨bv, hbv⟩ : ∃ b, wq63.heap.size = b := ⟨_, rfl⟩
              obtain ⟨wq15, hwq15⟩ : ∃ W, World.alloc wq63 (.cells #[.slice none 0 0, .slice none 0 0, .slice none 0 0] 26) = W := ⟨_, rfl⟩
              have hBbv : Blk wq15 bv 26 [.slice none 0 0, .slice none 0 0, .slice none 0 0] := by rw [← hwq15, ← hbv]; exact Blk.new _ 26 [.slice none 0 0, .slice none 0 0, .slice none 0 0]
              have hzbv : wq15.heap.size = bv + 1 := by rw [← hwq15, ← hbv]; exact heap_size_alloc _ _
              replace HS := Lib.hid (HS.out.step (w' := wq15) (by rw [← hwq15]; exact Mod.alloc _ _ _))
              replace HS := Lib.hid ((Ev.blk hBbv).and HS.out)
              try rw [hwq15]
              try rw [hbv]
              clear hzbv hBbv hbv hwq15
              have hbbx := (HS.out.now).2.2.2.2.2.1
              have qbx_0 := hbbx.cell 0 rfl
              have qbx_1 := hbbx.cell 1 rfl
              have qbx_2 := hbbx.cell 2 rfl
              have lbx := hbbx.lt
              clear hbbx
              have hbbu := (HS.out.now).2.1
              have qbu_0 := hbbu.cell 0 rfl
              have qbu_1 := hbbu.cell 1 rfl
              have qbu_2 := hbbu.cell 2 rfl
              have lbu := hbbu.lt
              clear hbbu
              have hbbv := (HS.out.now).1
              have qbv_0 := hbbv.cell 0 rfl
              have qbv_1 := hbbv.cell 1 rfl
              have qbv_2 := hbbv.cell 2 rfl
              have lbv := hbbv.lt
              clear hbbv
              have k0 := run_strS wq15 27 9 5 Try.underlying27 Try.underlying5 Try.underlying9 ((HS.out.now).2.2.2.1)
              have k1 := run_strS wq15 27 9 5 Try.underlying27 Try.underlying5 Try.underlying9 ((HS.out.now).2.2.1)
              obtain ⟨sx, hsx⟩ : ∃ z, strOf (fileG G) = z := ⟨_, rfl⟩
              rw [hsx] at k0 k1
              clear hsx
              have hxy : (sx.toList == sx.toList) = true := by simp
              go_wp2_with fail
              refine (same2_any ⟨[], [], []⟩ ⟨[], [], []⟩ true (Lib.hid ⟨fun _ => rfl, fun _ => rfl⟩) _ none 0 0 none 0 0 none 0 0 ⟨rfl, rfl, rfl, Rd.nil _ _, Rd.nil _ _, Rd.nil _ _⟩ none 0 0 none 0 0 none 0 0 ⟨rfl, rfl, rfl, Rd.nil _ _, Rd.nil _ _, Rd.nil _ _⟩ (by omega) (by omega) (by omega)).mono ?_
              rintro e wq64 ⟨rfl, hmm⟩
              replace HS := Lib.hid (HS.out.step hmm)
              clear hmm
              clear qbx_0 qbx_1 qbx_2 lbx qbu_0 qbu_1 qbu_2 lbu qbv_0 qbv_1 qbv_2 lbv
              go_wp2_with fail
              refine (awake6_any _).mono ?_
              rintro e wq65 ⟨rfl, hmm⟩
              replace HS := Lib.hid (HS.out.step hmm)
              go_wp2_with fail
              go_ret
              exact ⟨rfl, (HS.out.now).2.2.2.2.2.2.2.2⟩
            case pos =>
              have HOK := Lib.hid hok
              clear hok
              go_wp2_with fail
              refine (encode_any G _ a1 n1 d1 a2 n2 d2 a3 n3 d3 ((HS.out.now).2.2.2.1)).mono ?_
              rintro e wq60 hp
              rcases hp with ⟨_, x1, y1, rfl, ho, hmm⟩ | ⟨hno, _⟩
              case inr => exact absurd HMAY.out hno
              obtain ⟨L1, hL1⟩ : ∃ k, (fileG G).length = k := ⟨_, rfl⟩
              rw [hL1] at ho ⊢
              have HL1 := Lib.hid hL1
              clear hL1
              replace HS := Lib.hid (HS.out.step hmm)
              clear hmm
              replace HS := Lib.hid ((Ev.rd (Rd.ofOwn ho)).and HS.out)
              clear ho
              clear qbx_0 qbx_1 qbx_2 lbx
              have hbbx := (HS.out.now).2.2.1
              have qbx_0 := hbbx.cell 0 rfl
              have qbx_1 := hbbx.cell 1 rfl
              have qbx_2 := hbbx.cell 2 rfl
              have lbx := hbbx.lt
              clear hbbx
              go_wp2_with fail
              refine (rfile_any G _ a1 n1 d1 a2 n2 d2 a3 n3 d3 ((HS.out.now).2.2.2.2.1) (by omega) (by omega) (by omega)).mono ?_
              rintro e wq61 hp
              rcases hp with ⟨_, x2, y2, rfl, ho, hmm⟩ | ⟨hno, _⟩
              case inr => exact absurd HMAY.out hno
              rw [HL1.out] at ho ⊢
              replace HS := Lib.hid (HS.out.step hmm)
              clear hmm
              clear qbx_0 qbx_1 qbx_2 lbx
              replace HS := Lib.hid ((Ev.rd (Rd.ofOwn ho)).and HS.out)
              clear ho
              go_wp2_with fail
              refine (decode_any _ a n c b HNN.out ((HS.out.now).2.2.1) HBB.out (by omega)).mono ?_
              rintro e wq62 hp
              rcases hp with ⟨_, b1, m1, v1, b2, m2, v2, b3, m3, v3, rfl, hg, hmm⟩ | ⟨hno, _⟩
              case inr => exact absurd HOK.out hno
              replace HS := Lib.hid (HS.out.step hmm)
              clear hmm
              replace HS := Lib.hid ((Ev.gv hg).and HS.out)
              clear hg
              go_upto_region 10 with fail
              obtain ⟨bu, hbu⟩ : ∃ b, wq62.heap.size = b := ⟨_, rfl⟩
              obtain ⟨wq16, hwq16⟩ : ∃ W, World.alloc wq62 (.cells #[.slice b1 m1 v1, .slice b2 m2 v2, .slice b3 m3 v3] 26) = W := ⟨_, rfl⟩
              have hBbu : Blk wq16 bu 26 [.slice b1 m1 v1, .slice b2 m2 v2, .slice b3 m3 v3] := by rw [← hwq16, ← hbu]; exact Blk.new _ 26 [.slice b1 m1 v1, .slice b2 m2 v2, .slice b3 m3 v3]
              have hzbu : wq16.heap.size = bu + 1 := by rw [← hwq16, ← hbu]; exact heap_size_alloc _ _
              replace HS := Lib.hid (HS.out.step (w' := wq16) (by rw [← hwq16]; exact Mod.alloc _ _ _))
              replace HS := Lib.hid ((Ev.blk hBbu).and HS.out)
              try rw [hwq16]
              try rw [hbu]
              clear hzbu hBbu hbu hwq16
              go_wp2_with fail
              refine (rread_any _ a n c b HNN.out ((HS.out.now).2.2.2.2.1) HBB.out (by omega)).mono ?_
              rintro e wq63 hp
              rcases hp with ⟨_, e1, l1, g1, e2, l2, g2, e3, l3, g3, rfl, hg, hmm⟩ | ⟨hno, _⟩
              case inr => exact absurd HOK.out hno
              replace HS := Lib.hid (HS.out.step hmm)
              clear hmm
              replace HS := Lib.hid ((Ev.gv hg).and HS.out)
              clear hg
              go_upto_region 11 with fail
              obtain ⟨bv, hbv⟩ : ∃ b, wq63.heap.size = b := ⟨_, rfl⟩
              obtain ⟨wq17, hwq17⟩ : ∃ W, World.alloc wq63 (.cells #[.slice e1 l1 g1, .slice e2 l2 g2, .slice e3 l3 g3] 26) = W := ⟨_, rfl⟩
              have hBbv : Blk wq17 bv 26 [.slice e1 l1 g1, .slice e2 l2 g2, .slice e3 l3 g3] := by rw [← hwq17, ← hbv]; exact Blk.new _ 26 [.slice e1 l1 g1, .slice e2 l2 g2, .slice e3 l3 g3]
              have hzbv : wq17.heap.size = bv + 1 := by rw [← hwq17, ← hbv]; exact heap_size_alloc _ _
              replace HS := Lib.hid (HS.out.step (w' := wq17) (by rw [← hwq17]; exact Mod.alloc _ _ _))
              replace HS := Lib.hid ((Ev.blk hBbv).and HS.out)
              try rw [hwq17]
              try rw [hbv]
              clear hzbv hBbv hbv hwq17
              have hbbx := (HS.out.now).2.2.2.2.2.2.2.1
              have qbx_0 := hbbx.cell 0 rfl
              have qbx_1 := hbbx.cell 1 rfl
              have qbx_2 := hbbx.cell 2 rfl
              have lbx := hbbx.lt
              clear hbbx
              have hbbu := (HS.out.now).2.2.1
              have qbu_0 := hbbu.cell 0 rfl
              have qbu_1 := hbbu.cell 1 rfl
              have qbu_2 := hbbu.cell 2 rfl
              have lbu := hbbu.lt
              clear hbbu
              have hbbv := (HS.out.now).1
              have qbv_0 := hbbv.cell 0 rfl
              have qbv_1 := hbbv.cell 1 rfl
              have qbv_2 := hbbv.cell 2 rfl
              have lbv := hbbv.lt
              clear hbbv
              have k0 := run_strS wq17 27 9 5 Try.underlying27 Try.underlying5 Try.underlying9 ((HS.out.now).2.2.2.2.2.1)
              have k1 := run_strS wq17 27 9 5 Try.underlying27 Try.underlying5 Try.underlying9 ((HS.out.now).2.2.2.2.1)
              obtain ⟨sx, hsx⟩ : ∃ z, strOf (fileG G) = z := ⟨_, rfl⟩
              rw [hsx] at k0 k1
              clear hsx
              have hxy : (sx.toList == sx.toList) = true := by simp
              go_wp2_with fail
              have hgu := (HS.out.now).2.2.2.1
              have hgw := (HS.out.now).2.1
              have hmo := HOK.out.1.1
              refine (same2_any (parseG b) (parseG b) true (Lib.hid ⟨fun _ => rfl, fun _ => rfl⟩) _ b1 m1 v1 b2 m2 v2 b3 m3 v3 hgu e1 l1 g1 e2 l2 g2 e3 l3 g3 hgw (by have h1 := hgu.n; have h2 := hmo.1.2; omega) (by have h1 := hgu.e; have h2 := hmo.2.1; omega) (by have h1 := hgu.b; have h2 := hmo.2.2; omega)).mono ?_
              rintro e wq64 ⟨rfl, hmm⟩
              replace HS := Lib.hid (HS.out.step hmm)
              clear hmm
              clear qbx_0 qbx_1 qbx_2 lbx qbu_0 qbu_1 qbu_2 lbu qbv_0 qbv_1 qbv_2 lbv
              go_wp2_with fail
              refine (awake6_any _).mono ?_
              rintro e wq65 ⟨rfl, hmm⟩
              replace HS := Lib.hid (HS.out.step hmm)
              go_wp2_with fail
              go_ret
              exact ⟨rfl, (HS.out.now).2.2.2.2.2.2.2.2.2.2⟩
        case pos =>
          have z4 : decide ((4 : Int) < (n : Int)) = true := by simp; omega
          obtain ⟨m, hm⟩ : ∃ m, n = m + 4 := ⟨n - 4, by omega⟩
          subst hm
          have hrd := (HS.out.now).2.1
          have hcast : ((m + 4 : Nat) : Int) - 4 = (m : Int) := by omega
          have hmc : m ≤ c := by obtain ⟨_, a', c', he', h1, _⟩ := hrd; cases he'; omega
          have hts := fun wx => run_takeS (P := Try.prog) wx 27 5 i0 Try.underlying27 hi8 a (m + 4) c m hmc
          have hrt := hrd.take (n := m) (by omega)
          rw [Nat.mul_one, ← List.map_take] at hrt
          obtain ⟨hd, hhd⟩ : ∃ l, b.take m = l := ⟨_, rfl⟩
          have hdl : hd.length = m := by rw [← hhd, List.length_take, HN.out]; omega
          have hdr : ∀ x ∈ hd, 0 ≤ x ∧ x < 256 := by rw [← hhd]; exact fun x hx => HB.out x (List.mem_of_mem_take hx)
          rw [hhd] at hrt
          have HDL := Lib.hid hdl
          have HDR := Lib.hid hdr
          clear hhd hdl hrd
          obtain ⟨sm, hsm⟩ : ∃ sm, (csum hd).toNat = sm := ⟨_, rfl⟩
          have hlt := (csum hd).isLt
          rw [hsm] at hlt
          have hlt2 : sm < 4294967296 := by simpa using hlt
          have HSM := Lib.hid hsm
          clear hlt hsm
          have h1c : ∀ u ∈ hd.map (Value.int .u8), u.oneCell' = true := by intro u hu; simp at hu; obtain ⟨x, _, rfl⟩ := hu; rfl
          have h1d : ∀ u ∈ [Value.int .u8 ((sm : Int) / 16777216), .int .u8 ((sm : Int) / 65536 % 256), .int .u8 ((sm : Int) / 256 % 256), .int .u8 ((sm : Int) % 256)], u.oneCell' = true := by simp [Value.oneCell']
          have hap1 : 0 + m ≤ maxLen := by unfold maxLen; omega
          have hap2 : (0 + m) * 1 ≤ 140737488355328 := by omega
          have hap3 : m + 4 ≤ maxLen := by unfold maxLen; omega
          have hap4 : (m + 4) * 1 ≤ 140737488355328 := by omega
          go_wp2_with fail
          refine (rsum_any a m c hd _ hrt HDR.out).mono ?_
          rw [HSM.out]
          rintro e wq52 ⟨rfl, hw1⟩
          subst hw1
          go_upto_region 7 with (first
            | (at_builtin; refine wpList_append_any rfl (.tmp 39) (.tmp 42) 27 rfl 5 i0 (.int .u8 0) 1 1 Try.underlying27 hi8 hz0 hs8 hz2 rfl (by decide) _ 0 [] rfl (own_empty _ _ _ _ (by simp)) _ m (hd.map (Value.int .u8)) rfl (hrt.alloc _) h1c hap1 hap2 ?_; intro v4 w4 hap; obtain ⟨a4, c4, rfl⟩ := hap.form; have ho4 := hap.own; have hl4 := hap.low (B := wq50.heap.size) (by simp) (low_lit (Nat.le_refl _)); have hm4 := hap.modOld (Mod.alloc (fun _ => False) wq50 _) (low_lit (Nat.le_refl _)); simp only [Nat.zero_add, List.nil_append] at ho4 hl4; clear hap)
            | (at_builtin; refine wpList_append_any rfl (.tmp 43) (.tmp 55) 27 rfl 5 i0 (.int .u8 0) 1 1 Try.underlying27 hi8 hz0 hs8 hz2 rfl (by decide) _ m _ rfl (World.ownsRow.alloc ho4 _) _ 4 [.int .u8 ((sm : Int) / 16777216), .int .u8 ((sm : Int) / 65536 % 256), .int .u8 ((sm : Int) / 256 % 256), .int .u8 ((sm : Int) % 256)] rfl (Rd.lit _ [.int .u8 ((sm : Int) / 16777216), .int .u8 ((sm : Int) / 65536 % 256), .int .u8 ((sm : Int) / 256 % 256), .int .u8 ((sm : Int) % 256)] _ _ 4 (by simp) rfl (by omega)) h1d hap3 hap4 ?_; intro v5 w5 hap; obtain ⟨a5, c5, rfl⟩ := hap.form; have ho5 := hap.own; have hm5 := hap.modOld (hm4.thenAlloc _) hl4; have HO5 := Lib.hid ho5; have HM5 := Lib.hid hm5; clear hap ho4 hm4 hl4 ho5 hm5))
          replace HS := Lib.hid (HS.out.step HM5.out)
          have HNN : Hid ((hd ++ [(sm : Int) / 16777216, (sm : Int) / 65536 % 256, (sm : Int) / 256 % 256, (sm : Int) % 256]).length = m + 4) := Lib.hid (by rw [List.length_append, HDL.out]; rfl)
          have HBB : Hid (∀ x ∈ hd ++ [(sm : Int) / 16777216, (sm : Int) / 65536 % 256, (sm : Int) / 256 % 256, (sm : Int) % 256], 0 ≤ x ∧ x < 256) := Lib.hid (fun x hx => by
            rcases List.mem_append.1 hx with hx | hx
            · exact HDR.out x hx
            · simp at hx; omega)
          have hrd5 : Rd w5 1 (.slice a5 (m + 4) c5) (m + 4) ((hd ++ [(sm : Int) / 16777216, (sm : Int) / 65536 % 256, (sm : Int) / 256 % 256, (sm : Int) % 256]).map (Value.int .u8)) := by rw [List.map_append]; exact Rd.ofOwn HO5.out
          obtain ⟨bb, hbq⟩ : ∃ l, hd ++ [(sm : Int) / 16777216, (sm : Int) / 65536 % 256, (sm : Int) / 256 % 256, (sm : Int) % 256] = l := ⟨_, rfl⟩
          rw [hbq] at hrd5 HNN HBB
          clear hbq hrt h1c h1d hap1 hap2 hap3 hap4 hts
          replace HS := Lib.hid ((Ev.rd hrd5).and HS.out)
          clear hrd5
          have hbbx := (HS.out.now).2.1
          have qbx_0 := hbbx.cell 0 rfl
          have qbx_1 := hbbx.cell 1 rfl
          have qbx_2 := hbbx.cell 2 rfl
          have lbx := hbbx.lt
          clear hbbx
          by_cases hmay : May G
          case neg =>
            have HMAY := Lib.hid hmay
            clear hmay
            by_cases hok : OkG bb
            case neg =>
              have HOK := Lib.hid hok
              clear hok
              go_wp2_with fail
              refine (encode_any G _ a1 n1 d1 a2 n2 d2 a3 n3 d3 ((HS.out.now).2.2.2.1)).mono ?_
              rintro e wq60 hp
              rcases hp with ⟨hno, _⟩ | ⟨_, rfl, hmm⟩
              case inl => exact absurd hno HMAY.out
              replace HS := Lib.hid (HS.out.step hmm)
              clear hmm
              clear qbx_0 qbx_1 qbx_2 lbx
              have hbbx := (HS.out.now).2.1
              have qbx_0 := hbbx.cell 0 rfl
              have qbx_1 := hbbx.cell 1 rfl
              have qbx_2 := hbbx.cell 2 rfl
              have lbx := hbbx.lt
              clear hbbx
              go_wp2_with fail
              refine (rfile_any G _ a1 n1 d1 a2 n2 d2 a3 n3 d3 ((HS.out.now).2.2.2.1) (by omega) (by omega) (by omega)).mono ?_
              rintro e wq61 hp
              rcases hp with ⟨hno, _⟩ | ⟨_, rfl, hmm⟩
              case inl => exact absurd hno HMAY.out
              replace HS := Lib.hid (HS.out.step hmm)
              clear hmm
              clear qbx_0 qbx_1 qbx_2 lbx
              go_wp2_with fail
              refine (decode_any _ a5 (m + 4) c5 bb HNN.out ((HS.out.now).1) HBB.out (by omega)).mono ?_
              rintro e wq62 hp
              rcases hp with ⟨hno, _⟩ | ⟨_, rfl, hmm⟩
              case inl => exact absurd hno HOK.out
              replace HS := Lib.hid (HS.out.step hmm)
              clear hmm
              go_upto_region 10 with fail
              obtain ⟨bu, hbu⟩ : ∃ b, wq62.heap.size = b := ⟨_, rfl⟩
              obtain ⟨wq18, hwq18⟩ : ∃ W, World.alloc wq62 (.cells #[.slice none 0 0, .slice none 0 0, .slice none 0 0] 26) = W := ⟨_, rfl⟩
              have hBbu : Blk wq18 bu 26 [.slice none 0 0, .slice none 0 0, .slice none 0 0] := by rw [← hwq18, ← hbu]; exact Blk.new _ 26 [.slice none 0 0, .slice none 0 0, .slice none 0 0]
              have hzbu : wq18.heap.size = bu + 1 := by rw [← hwq18, ← hbu]; exact heap_size_alloc _ _
              replace HS := Lib.hid (HS.out.step (w' := wq18) (by rw [← hwq18]; exact Mod.alloc _ _ _))
              replace HS := Lib.hid ((Ev.blk hBbu).and HS.out)
              try rw [hwq18]
              try rw [hbu]
              clear hzbu hBbu hbu hwq18
              go_wp2_with fail
              refine (rread_any _ a5 (m + 4) c5 bb HNN.out ((HS.out.now).2.1) HBB.out (by omega)).mono ?_
              rintro e wq63 hp
              rcases hp with ⟨hno, _⟩ | ⟨_, rfl, hmm⟩
              case inl => exact absurd hno HOK.out
              replace HS := Lib.hid (HS.out.step hmm)
              clear hmm
              go_upto_region 11 with fail
              obtain ⟨bv, hbv⟩ : ∃ b, wq63.heap.size = b := ⟨_, rfl⟩
              obtain ⟨wq19, hwq19⟩ : ∃ W, World.alloc wq63 (.cells #[.slice none 0 0, .slice none 0 0, .slice none 0 0] 26) = W := ⟨_, rfl⟩
              have hBbv : Blk wq19 bv 26 [.slice none 0 0, .slice none 0 0, .slice none 0 0] := by rw [← hwq19, ← hbv]; exact Blk.new _ 26 [.slice none 0 0, .slice none 0 0, .slice none 0 0]
              have hzbv : wq19.heap.size = bv + 1 := by rw [← hwq19, ← hbv]; exact heap_size_alloc _ _
              replace HS := Lib.hid (HS.out.step (w' := wq19) (by rw [← hwq19]; exact Mod.alloc _ _ _))
              replace HS := Lib.hid ((Ev.blk hBbv).and HS.out)
              try rw [hwq19]
              try rw [hbv]
              clear hzbv hBbv hbv hwq19
              have hbbx := (HS.out.now).2.2.2.1
              have qbx_0 := hbbx.cell 0 rfl
              have qbx_1 := hbbx.cell 1 rfl
              have qbx_2 := hbbx.cell 2 rfl
              have lbx := hbbx.lt
              clear hbbx
              have hbbu := (HS.out.now).2.1
              have qbu_0 := hbbu.cell 0 rfl
              have qbu_1 := hbbu.cell 1 rfl
              have qbu_2 := hbbu.cell 2 rfl
              have lbu := hbbu.lt
              clear hbbu
              have hbbv := (HS.out.now).1
              have qbv_0 := hbbv.cell 0 rfl
              have qbv_1 := hbbv.cell 1 rfl
              have qbv_2 := hbbv.cell 2 rfl
              have lbv := hbbv.lt
              clear hbbv
              have k0 := run_strS wq19 27 9 5 Try.underlying27 Try.underlying5 Try.underlying9 ((show Rd wq19 1 (.slice none 0 0) 0 (([] : List Int).map (Value.int .u8)) from Rd.nil _ _))
              have k1 := run_strS wq19 27 9 5 Try.underlying27 Try.underlying5 Try.underlying9 ((show Rd wq19 1 (.slice none 0 0) 0 (([] : List Int).map (Value.int .u8)) from Rd.nil _ _))
              obtain ⟨sx, hsx⟩ : ∃ z, strOf ([] : List Int) = z := ⟨_, rfl⟩
              rw [hsx] at k0 k1
              clear hsx
              have hxy : (sx.toList == sx.toList) = true := by simp
              go_wp2_with fail
              refine (same2_any ⟨[], [], []⟩ ⟨[], [], []⟩ true (Lib.hid ⟨fun _ => rfl, fun _ => rfl⟩) _ none 0 0 none 0 0 none 0 0 ⟨rfl, rfl, rfl, Rd.nil _ _, Rd.nil _ _, Rd.nil _ _⟩ none 0 0 none 0 0 none 0 0 ⟨rfl, rfl, rfl, Rd.nil _ _, Rd.nil _ _, Rd.nil _ _⟩ (by omega) (by omega) (by omega)).mono ?_
              rintro e wq64 ⟨rfl, hmm⟩
              replace HS := Lib.hid (HS.out.step hmm)
              clear hmm
              clear qbx_0 qbx_1 qbx_2 lbx qbu_0 qbu_1 qbu_2 lbu qbv_0 qbv_1 qbv_2 lbv
              go_wp2_with fail
              refine (awake6_any _).mono ?_
              rintro e wq65 ⟨rfl, hmm⟩
              replace HS := Lib.hid (HS.out.step hmm)
              go_wp2_with fail
              go_ret
              exact ⟨rfl, (HS.out.now).2.2.2.2.2.2⟩
            case pos =>
              have HOK := Lib.hid hok
              clear hok
              go_wp2_with fail
              refine (encode_any G _ a1 n1 d1 a2 n2 d2 a3 n3 d3 ((HS.out.now).2.2.2.1)).mono ?_
              rintro e wq60 hp
              rcases hp with ⟨hno, _⟩ | ⟨_, rfl, hmm⟩
              case inl => exact absurd hno HMAY.out
              replace HS := Lib.hid (HS.out.step hmm)
              clear hmm
              clear qbx_0 qbx_1 qbx_2 lbx
              have hbbx := (HS.out.now).2.1
              have qbx_0 := hbbx.cell 0 rfl
              have qbx_1 := hbbx.cell 1 rfl
              have qbx_2 := hbbx.cell 2 rfl
              have lbx := hbbx.lt
              clear hbbx
              go_wp2_with fail
              refine (rfile_any G _ a1 n1 d1 a2 n2 d2 a3 n3 d3 ((HS.out.now).2.2.2.1) (by omega) (by omega) (by omega)).mono ?_
              rintro e wq61 hp
              rcases hp with ⟨hno, _⟩ | ⟨_, rfl, hmm⟩
              case inl => exact absurd hno HMAY.out
              replace HS := Lib.hid (HS.out.step hmm)
              clear hmm
              clear qbx_0 qbx_1 qbx_2 lbx
              go_wp2_with fail
              refine (decode_any _ a5 (m + 4) c5 bb HNN.out ((HS.out.now).1) HBB.out (by omega)).mono ?_
              rintro e wq62 hp
              rcases hp with ⟨_, b1, m1, v1, b2, m2, v2, b3, m3, v3, rfl, hg, hmm⟩ | ⟨hno, _⟩
              case inr => exact absurd HOK.out hno
              replace HS := Lib.hid (HS.out.step hmm)
              clear hmm
              replace HS := Lib.hid ((Ev.gv hg).and HS.out)
              clear hg
              go_upto_region 10 with fail
              obtain ⟨bu, hbu⟩ : ∃ b, wq62.heap.size = b := ⟨_, rfl⟩
              obtain ⟨wq20, hwq20⟩ : ∃ W, World.alloc wq62 (.cells #[.slice b1 m1 v1, .slice b2 m2 v2, .slice b3 m3 v3] 26) = W := ⟨_, rfl⟩
              have hBbu : Blk wq20 bu 26 [.slice b1 m1 v1, .slice b2 m2 v2, .slice b3 m3 v3] := by rw [← hwq20, ← hbu]; exact Blk.new _ 26 [.slice b1 m1 v1, .slice b2 m2 v2, .slice b3 m3 v3]
              have hzbu : wq20.heap.size = bu + 1 := by rw [← hwq20, ← hbu]; exact heap_size_alloc _ _
              replace HS := Lib.hid (HS.out.step (w' := wq20) (by rw [← hwq20]; exact Mod.alloc _ _ _))
              replace HS := Lib.hid ((Ev.blk hBbu).and HS.out)
              try rw [hwq20]
              try rw [hbu]
              clear hzbu hBbu hbu hwq20
              go_wp2_with fail
              refine (rread_any _ a5 (m + 4) c5 bb HNN.out ((HS.out.now).2.2.1) HBB.out (by omega)).mono ?_
              rintro e wq63 hp
              rcases hp with ⟨_, e1, l1, g1, e2, l2, g2, e3, l3, g3, rfl, hg, hmm⟩ | ⟨hno, _⟩
              case inr => exact absurd HOK.out hno
              replace HS := Lib.hid (HS.out.step hmm)
              clear hmm
              replace HS := Lib.hid ((Ev.gv hg).and HS.out)
              clear hg
              go_upto_region 11 with fail
              obtain ⟨bv, hbv⟩ : ∃ b, wq63.heap.size = b := ⟨_, rfl⟩
              obtain ⟨wq21, hwq21⟩ : ∃ W, World.alloc wq63 (.cells #[.slice e1 l1 g1, .slice e2 l2 g2, .slice e3 l3 g3] 26) = W := ⟨_, rfl⟩
              have hBbv : Blk wq21 bv 26 [.slice e1 l1 g1, .slice e2 l2 g2, .slice e3 l3 g3] := by rw [← hwq21, ← hbv]; exact Blk.new _ 26 [.slice e1 l1 g1, .slice e2 l2 g2, .slice e3 l3 g3]
              have hzbv : wq21.heap.size = bv + 1 := by rw [← hwq21, ← hbv]; exact heap_size_alloc _ _
              replace HS := Lib.hid (HS.out.step (w' := wq21) (by rw [← hwq21]; exact Mod.alloc _ _ _))
              replace HS := Lib.hid ((Ev.blk hBbv).and HS.out)
              try rw [hwq21]
              try rw [hbv]
              clear hzbv hBbv hbv hwq21
              have hbbx := (HS.out.now).2.2.2.2.2.1
              have qbx_0 := hbbx.cell 0 rfl
              have qbx_1 := hbbx.cell 1 rfl
              have qbx_2 := hbbx.cell 2 rfl
              have lbx := hbbx.lt
              clear hbbx
              have hbbu := (HS.out.now).2.2.1
              have qbu_0 := hbbu.cell 0 rfl
              have qbu_1 := hbbu.cell 1 rfl
              have qbu_2 := hbbu.cell 2 rfl
              have lbu := hbbu.lt
              clear hbbu
              have hbbv := (HS.out.now).1
              have qbv_0 := hbbv.cell 0 rfl
              have qbv_1 := hbbv.cell 1 rfl
              have qbv_2 := hbbv.cell 2 rfl
              have lbv := hbbv.lt
              clear hbbv
              have k0 := run_strS wq21 27 9 5 Try.underlying27 Try.underlying5 Try.underlying9 ((show Rd wq21 1 (.slice none 0 0) 0 (([] : List Int).map (Value.int .u8)) from Rd.nil _ _))
              have k1 := run_strS wq21 27 9 5 Try.underlying27 Try.underlying5 Try.underlying9 ((show Rd wq21 1 (.slice none 0 0) 0 (([] : List Int).map (Value.int .u8)) from Rd.nil _ _))
              obtain ⟨sx, hsx⟩ : ∃ z, strOf ([] : List Int) = z := ⟨_, rfl⟩
              rw [hsx] at k0 k1
              clear hsx
              have hxy : (sx.toList == sx.toList) = true := by simp
              go_wp2_with fail
              have hgu := (HS.out.now).2.2.2.1
              have hgw := (HS.out.now).2.1
              have hmo := HOK.out.1.1
              refine (same2_any (parseG bb) (parseG bb) true (Lib.hid ⟨fun _ => rfl, fun _ => rfl⟩) _ b1 m1 v1 b2 m2 v2 b3 m3 v3 hgu e1 l1 g1 e2 l2 g2 e3 l3 g3 hgw (by have h1 := hgu.n; have h2 := hmo.1.2; omega) (by have h1 := hgu.e; have h2 := hmo.2.1; omega) (by have h1 := hgu.b; have h2 := hmo.2.2; omega)).mono ?_
              rintro e wq64 ⟨rfl, hmm⟩
              replace HS := Lib.hid (HS.out.step hmm)
              clear hmm
              clear qbx_0 qbx_1 qbx_2 lbx qbu_0 qbu_1 qbu_2 lbu qbv_0 qbv_1 qbv_2 lbv
              go_wp2_with fail
              refine (awake6_any _).mono ?_
              rintro e wq65 ⟨rfl, hmm⟩
              replace HS := Lib.hid (HS.out.step hmm)
              go_wp2_with fail
              go_ret
              exact ⟨rfl, (HS.out.now).2.2.2.2.2.2.2.2⟩
          case pos =>
            have HMAY := Lib.hid hmay
            clear hmay
            by_cases hok : OkG bb
            case neg =>
              have HOK := Lib.hid hok
              clear hok
              go_wp2_with fail
              refine (encode_any G _ a1 n1 d1 a2 n2 d2 a3 n3 d3 ((HS.out.now).2.2.2.1)).mono ?_
              rintro e wq60 hp
              rcases hp with ⟨_, x1, y1, rfl, ho, hmm⟩ | ⟨hno, _⟩
              case inr => exact absurd HMAY.out hno
              obtain ⟨L1, hL1⟩ : ∃ k, (fileG G).length = k := ⟨_, rfl⟩
              rw [hL1] at ho ⊢
              have HL1 := Lib.hid hL1
              clear hL1
              replace HS := Lib.hid (HS.out.step hmm)
              clear hmm
              replace HS := Lib.hid ((Ev.rd (Rd.ofOwn ho)).and HS.out)
              clear ho
              clear qbx_0 qbx_1 qbx_2 lbx
              have hbbx := (HS.out.now).2.2.1
              have qbx_0 := hbbx.cell 0 rfl
              have qbx_1 := hbbx.cell 1 rfl
              have qbx_2 := hbbx.cell 2 rfl
              have lbx := hbbx.lt
              clear hbbx
              go_wp2_with fail
              refine (rfile_any G _ a1 n1 d1 a2 n2 d2 a3 n3 d3 ((HS.out.now).2.2.2.2.1) (by omega) (by omega) (by omega)).mono ?_
              rintro e wq61 hp
              rcases hp with ⟨_, x2, y2, rfl, ho, hmm⟩ | ⟨hno, _⟩
              case inr => exact absurd HMAY.out hno
              rw [HL1.out] at ho ⊢
              replace HS := Lib.hid (HS.out.step hmm)
              clear hmm
              clear qbx_0 qbx_1 qbx_2 lbx
              replace HS := Lib.hid ((Ev.rd (Rd.ofOwn ho)).and HS.out)
              clear ho
              go_wp2_with fail
              refine (decode_any _ a5 (m + 4) c5 bb HNN.out ((HS.out.now).2.2.1) HBB.out (by omega)).mono ?_
              rintro e wq62 hp
              rcases hp with ⟨hno, _⟩ | ⟨_, rfl, hmm⟩
              case inl => exact absurd hno HOK.out
              replace HS := Lib.hid (HS.out.step hmm)
              clear hmm
              go_upto_region 10 with fail
              obtain ⟨bu, hbu⟩ : ∃ b, wq62.heap.size = b := ⟨_, rfl⟩
              obtain ⟨wq22, hwq22⟩ : ∃ W, World.alloc wq62 (.cells #[.slice none 0 0, .slice none 0 0, .slice none 0 0] 26) = W := ⟨_, rfl⟩
              have hBbu : Blk wq22 bu 26 [.slice none 0 0, .slice none 0 0, .slice none 0 0] := by rw [← hwq22, ← hbu]; exact Blk.new _ 26 [.slice none 0 0, .slice none 0 0, .slice none 0 0]
              have hzbu : wq22.heap.size = bu + 1 := by rw [← hwq22, ← hbu]; exact heap_size_alloc _ _
              replace HS := Lib.hid (HS.out.step (w' := wq22) (by rw [← hwq22]; exact Mod.alloc _ _ _))
              replace HS := Lib.hid ((Ev.blk hBbu).and HS.out)
              try rw [hwq22]
              try rw [hbu]
              clear hzbu hBbu hbu hwq22
              go_wp2_with fail
              refine (rread_any _ a5 (m + 4) c5 bb HNN.out ((HS.out.now).2.2.2.1) HBB.out (by omega)).mono ?_
              rintro e wq63 hp
              rcases hp with ⟨hno, _⟩ | ⟨_, rfl, hmm⟩
              case inl => exact absurd hno HOK.out
              replace HS := Lib.hid (HS.out.step hmm)
              clear hmm
              go_upto_region 11 with fail
              obtain ⟨bv, hbv⟩ : ∃ b, wq63.heap.size = b := ⟨_, rfl⟩
              obtain ⟨wq23, hwq23⟩ : ∃ W, World.alloc wq63 (.cells #[.slice none 0 0, .slice none 0 0, .slice none 0 0] 26) = W := ⟨_, rfl⟩
              have hBbv : Blk wq23 bv 26 [.slice none 0 0, .slice none 0 0, .slice none 0 0] := by rw [← hwq23, ← hbv]; exact Blk.new _ 26 [.slice none 0 0, .slice none 0 0, .slice none 0 0]
              have hzbv : wq23.heap.size = bv + 1 := by rw [← hwq23, ← hbv]; exact heap_size_alloc _ _
              replace HS := Lib.hid (HS.out.step (w' := wq23) (by rw [← hwq23]; exact Mod.alloc _ _ _))
              replace HS := Lib.hid ((Ev.blk hBbv).and HS.out)
              try rw [hwq23]
              try rw [hbv]
              clear hzbv hBbv hbv hwq23
              have hbbx := (HS.out.now).2.2.2.2.2.1
              have qbx_0 := hbbx.cell 0 rfl
              have qbx_1 := hbbx.cell 1 rfl
              have qbx_2 := hbbx.cell 2 rfl
              have lbx := hbbx.lt
              clear hbbx
              have hbbu := (HS.out.now).2.1
              have qbu_0 := hbbu.cell 0 rfl
              have qbu_1 := hbbu.cell 1 rfl
              have qbu_2 := hbbu.cell 2 rfl
              have lbu := hbbu.lt
              clear hbbu
              have hbbv := (HS.out.now).1
              have qbv_0 := hbbv.cell 0 rfl
              have qbv_1 := hbbv.cell 1 rfl
              have qbv_2 := hbbv.cell 2 rfl
              have lbv := hbbv.lt
              clear hbbv
              have k0 := run_strS wq23 27 9 5 Try.underlying27 Try.underlying5 Try.underlying9 ((HS.out.now).2.2.2.1)
              have k1 := run_strS wq23 27 9 5 Try.underlying27 Try.underlying5 Try.underlying9 ((HS.out.now).2.2.1)
              obtain ⟨sx, hsx⟩ : ∃ z, strOf (fileG G) = z := ⟨_, rfl⟩
              rw [hsx] at k0 k1
              clear hsx
              have hxy : (sx.toList == sx.toList) = true := by simp
              go_wp2_with fail
              refine (same2_any ⟨[], [], []⟩ ⟨[], [], []⟩ true (Lib.hid ⟨fun _ => rfl, fun _ => rfl⟩) _ none 0 0 none 0 0 none 0 0 ⟨rfl, rfl, rfl, Rd.nil _ _, Rd.nil _ _, Rd.nil _ _⟩ none 0 0 none 0 0 none 0 0 ⟨rfl, rfl, rfl, Rd.nil _ _, Rd.nil _ _, Rd.nil _ _⟩ (by omega) (by omega) (by omega)).mono ?_
              rintro e wq64 ⟨rfl, hmm⟩
              replace HS := Lib.hid (HS.out.step hmm)
              clear hmm
              clear qbx_0 qbx_1 qbx_2 lbx qbu_0 qbu_1 qbu_2 lbu qbv_0 qbv_1 qbv_2 lbv
              go_wp2_with fail
              refine (awake6_any _).mono ?_
              rintro e wq65 ⟨rfl, hmm⟩
              replace HS := Lib.hid (HS.out.step hmm)
              go_wp2_with fail
              go_ret
              exact ⟨rfl, (HS.out.now).2.2.2.2.2.2.2.2⟩
            case pos =>
              have HOK := Lib.hid hok
              clear hok
              go_wp2_with fail
              refine (encode_any G _ a1 n1 d1 a2 n2 d2 a3 n3 d3 ((HS.out.now).2.2.2.1)).mono ?_
              rintro e wq60 hp
              rcases hp with ⟨_, x1, y1, rfl, ho, hmm⟩ | ⟨hno, _⟩
              case inr => exact absurd HMAY.out hno
              obtain ⟨L1, hL1⟩ : ∃ k, (fileG G).length = k := ⟨_, rfl⟩
              rw [hL1] at ho ⊢
              have HL1 := Lib.hid hL1
              clear hL1
              replace HS := Lib.hid (HS.out.step hmm)
              clear hmm
              replace HS := Lib.hid ((Ev.rd (Rd.ofOwn ho)).and HS.out)
              clear ho
              clear qbx_0 qbx_1 qbx_2 lbx
              have hbbx := (HS.out.now).2.2.1
              have qbx_0 := hbbx.cell 0 rfl
              have qbx_1 := hbbx.cell 1 rfl
              have qbx_2 := hbbx.cell 2 rfl
              have lbx := hbbx.lt
              clear hbbx
              go_wp2_with fail
              refine (rfile_any G _ a1 n1 d1 a2 n2 d2 a3 n3 d3 ((HS.out.now).2.2.2.2.1) (by omega) (by omega) (by omega)).mono ?_
              rintro e wq61 hp
              rcases hp with ⟨_, x2, y2, rfl, ho, hmm⟩ | ⟨hno, _⟩
              case inr => exact absurd HMAY.out hno
              rw [HL1.out] at ho ⊢
              replace HS := Lib.hid (HS.out.step hmm)
              clear hmm
              clear qbx_0 qbx_1 qbx_2 lbx
              replace HS := Lib.hid ((Ev.rd (Rd.ofOwn ho)).and HS.out)
              clear ho
              go_wp2_with fail
              refine (decode_any _ a5 (m + 4) c5 bb HNN.out ((HS.out.now).2.2.1) HBB.out (by omega)).mono ?_
              rintro e wq62 hp
              rcases hp with ⟨_, b1, m1, v1, b2, m2, v2, b3, m3, v3, rfl, hg, hmm⟩ | ⟨hno, _⟩
              case inr => exact absurd HOK.out hno
              replace HS := Lib.hid (HS.out.step hmm)
              clear hmm
              replace HS := Lib.hid ((Ev.gv hg).and HS.out)
              clear hg
              go_upto_region 10 with fail
              obtain ⟨bu, hbu⟩ : ∃ b, wq62.heap.size = b := ⟨_, rfl⟩
              obtain ⟨wq24, hwq24⟩ : ∃ W, World.alloc wq62 (.cells #[.slice b1 m1 v1, .slice b2 m2 v2, .slice b3 m3 v3] 26) = W := ⟨_, rfl⟩
              have hBbu : Blk wq24 bu 26 [.slice b1 m1 v1, .slice b2 m2 v2, .slice b3 m3 v3] := by rw [← hwq24, ← hbu]; exact Blk.new _ 26 [.slice b1 m1 v1, .slice b2 m2 v2, .slice b3 m3 v3]
              have hzbu : wq24.heap.size = bu + 1 := by rw [← hwq24, ← hbu]; exact heap_size_alloc _ _
              replace HS := Lib.hid (HS.out.step (w' := wq24) (by rw [← hwq24]; exact Mod.alloc _ _ _))
              replace HS := Lib.hid ((Ev.blk hBbu).and HS.out)
              try rw [hwq24]
              try rw [hbu]
              clear hzbu hBbu hbu hwq24
              go_wp2_with fail
              refine (rread_any _ a5 (m + 4) c5 bb HNN.out ((HS.out.now).2.2.2.2.1) HBB.out (by omega)).mono ?_
              rintro e wq63 hp
              rcases hp with ⟨_, e1, l1, g1, e2, l2, g2, e3, l3, g3, rfl, hg, hmm⟩ | ⟨hno, _⟩
              case inr => exact absurd HOK.out hno
              replace HS := Lib.hid (HS.out.step hmm)
              clear hmm
              replace HS := Lib.hid ((Ev.gv hg).and HS.out)
              clear hg
              go_upto_region 11 with fail
              obtain ⟨bv, hbv⟩ : ∃ b, wq63.heap.size = b := ⟨_, rfl⟩
              obtain ⟨wq25, hwq25⟩ : ∃ W, World.alloc wq63 (.cells #[.slice e1 l1 g1, .slice e2 l2 g2, .slice e3 l3 g3] 26) = W := ⟨_, rfl⟩
              have hBbv : Blk wq25 bv 26 [.slice e1 l1 g1, .slice e2 l2 g2, .slice e3 l3 g3] := by rw [← hwq25, ← hbv]; exact Blk.new _ 26 [.slice e1 l1 g1, .slice e2 l2 g2, .slice e3 l3 g3]
              have hzbv : wq25.heap.size = bv + 1 := by rw [← hwq25, ← hbv]; exact heap_size_alloc _ _
              replace HS := Lib.hid (HS.out.step (w' := wq25) (by rw [← hwq25]; exact Mod.alloc _ _ _))
              replace HS := Lib.hid ((Ev.blk hBbv).and HS.out)
              try rw [hwq25]
              try rw [hbv]
              clear hzbv hBbv hbv hwq25
              have hbbx := (HS.out.now).2.2.2.2.2.2.2.1
              have qbx_0 := hbbx.cell 0 rfl
              have qbx_1 := hbbx.cell 1 rfl
              have qbx_2 := hbbx.cell 2 rfl
              have lbx := hbbx.lt
              clear hbbx
              have hbbu := (HS.out.now).2.2.1
              have qbu_0 := hbbu.cell 0 rfl
              have qbu_1 := hbbu.cell 1 rfl
              have qbu_2 := hbbu.cell 2 rfl
              have lbu := hbbu.lt
              clear hbbu
              have hbbv := (HS.out.now).1
              have qbv_0 := hbbv.cell 0 rfl
              have qbv_1 := hbbv.cell 1 rfl
              have qbv_2 := hbbv.cell 2 rfl
              have lbv := hbbv.lt
              clear hbbv
              have k0 := run_strS wq25 27 9 5 Try.underlying27 Try.underlying5 Try.underlying9 ((HS.out.now).2.2.2.2.2.1)
              have k1 := run_strS wq25 27 9 5 Try.underlying27 Try.underlying5 Try.underlying9 ((HS.out.now).2.2.2.2.1)
              obtain ⟨sx, hsx⟩ : ∃ z, strOf (fileG G) = z := ⟨_, rfl⟩
              rw [hsx] at k0 k1
              clear hsx
              have hxy : (sx.toList == sx.toList) = true := by simp
              go_wp2_with fail
              have hgu := (HS.out.now).2.2.2.1
              have hgw := (HS.out.now).2.1
              have hmo := HOK.out.1.1
              refine (same2_any (parseG bb) (parseG bb) true (Lib.hid ⟨fun _ => rfl, fun _ => rfl⟩) _ b1 m1 v1 b2 m2 v2 b3 m3 v3 hgu e1 l1 g1 e2 l2 g2 e3 l3 g3 hgw (by have h1 := hgu.n; have h2 := hmo.1.2; omega) (by have h1 := hgu.e; have h2 := hmo.2.1; omega) (by have h1 := hgu.b; have h2 := hmo.2.2; omega)).mono ?_
              rintro e wq64 ⟨rfl, hmm⟩
              replace HS := Lib.hid (HS.out.step hmm)
              clear hmm
              clear qbx_0 qbx_1 qbx_2 lbx qbu_0 qbu_1 qbu_2 lbu qbv_0 qbv_1 qbv_2 lbv
              go_wp2_with fail
              refine (awake6_any _).mono ?_
              rintro e wq65 ⟨rfl, hmm⟩
              replace HS := Lib.hid (HS.out.step hmm)
              go_wp2_with fail
              go_ret
              exact ⟨rfl, (HS.out.now).2.2.2.2.2.2.2.2.2.2⟩
theorem ftells_law6 (w : World) (cs : Array Value) (x : GraphD) (hcs : cs.toList = encGraph.img x) (ok : encGraph.ok w x) (a : Option Addr) (n c : Nat) (b : List Int) (okb : (encSlice (encInt .u8)).ok w (.slice a n c, b)) (fix : Bool) :
    Calls Try.prog 3 #[.agg cs, .slice a n c, .bool fix] w fun e w' => e = .returned (.bool true) ∧ Below w.heap.size w w' := by
  obtain ⟨G, a1, n1, d1, a2, n2, d2, a3, n3, d3, rfl, hv⟩ := graph_in hcs ok
  obtain ⟨hn, hr, hb⟩ := ok_ints okb
  exact (ftells_all w G a1 n1 d1 a2 n2 d2 a3 n3 d3 hv a n c b hn hr (u8_range hb) fix).mono fun e w' h => ⟨h.1, h.2.below (Nat.le_refl _) (fun _ e => e.elim)⟩
end Go.Proofs.Ytdccpikddhpleaa
