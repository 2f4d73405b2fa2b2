/- file.Encode by contract. -/
import Derived.Test.YtdccpikddhpleaaFileP
import Derived.Test.YtdccpikddhpleaaNew
import Derived.Test.YtdccpikddhpleaaEvG
import Derived.Deep.DeepCutAuto
import Derived.Deep.CutBlock
import Derived.Lib.SlBytesConst
namespace Go.Proofs.Ytdccpikddhpleaa
open Go.RowKit Mile
set_option maxRecDepth 100000
/-- What Encode tells. -/
def EncP (G : GD) (w : World) (e : Ending) (w' : World) : Prop :=
  (May G ∧ ∃ a c, e = .returned (.tuple #[.slice a (fileG G).length c, .int .i64 0]) ∧ w'.ownsRow w.heap.size 5 1 (.slice a (fileG G).length c) (fileG G).length ((fileG G).map (Value.int .u8)) ∧ Mod (fun _ => False) w w') ∨
  (¬ May G ∧ e = .returned (.tuple #[.slice none 0 0, .int .i64 1]) ∧ Mod (fun _ => False) w w')

set_option maxHeartbeats 32000000 in
theorem encode_any (G : GD) (w : World) (a1 : Option Addr) (n1 d1 : Nat) (a2 : Option Addr) (n2 d2 : Nat) (a3 : Option Addr) (n3 d3 : Nat) (h : GV w a1 n1 d1 a2 n2 d2 a3 n3 d3 G) :
    Calls Try.prog 9 #[.agg #[.slice a1 n1 d1, .slice a2 n2 d2, .slice a3 n3 d3]] w (EncP G w) := by
  obtain ⟨iN, hiN, hzN, hsN, hbN⟩ := info_parts GR.infoN
  obtain ⟨iE, hiE, hzE, hsE, hbE⟩ := info_parts GR.infoE
  obtain ⟨iB, hiB, hzB, hsB, hbB⟩ := info_parts GR.infoB
  have hn := Lib.hid h.n
  have he := Lib.hid h.e
  have hb := Lib.hid h.b
  have HS : Hid (Ev (Mod (fun _ => False) w) w) := Lib.hid (Ev.mod w)
  replace HS := Lib.hid ((Ev.gv h).and HS.out)
  clear h
  go_enter Try.func9, Try.ntmps9
  go_upto_region 1 with fail
  obtain ⟨bx, hbx⟩ : ∃ b, w.heap.size = b := ⟨_, rfl⟩
  obtain ⟨wq1, hwq1⟩ : ∃ W, World.alloc w (.cells #[.slice a1 n1 d1, .slice a2 n2 d2, .slice a3 n3 d3] 26) = W := ⟨_, rfl⟩
  have hBbx : Blk wq1 bx 26 [.slice a1 n1 d1, .slice a2 n2 d2, .slice a3 n3 d3] := by rw [← hwq1, ← hbx]; exact Blk.new _ 26 [.slice a1 n1 d1, .slice a2 n2 d2, .slice a3 n3 d3]
  have hzbx : wq1.heap.size = bx + 1 := by rw [← hwq1, ← hbx]; exact heap_size_alloc _ _
  replace HS := Lib.hid (HS.out.step (w' := wq1) (by rw [← hwq1]; exact Mod.alloc _ _ _))
  replace HS := Lib.hid ((Ev.blk hBbx).and HS.out)
  try rw [hwq1]
  try rw [hbx]
  clear hzbx hBbx hbx hwq1
  have hbbx := (HS.out.now).1
  have qbx_0 := hbbx.cell 0 rfl
  have qbx_1 := hbbx.cell 1 rfl
  have qbx_2 := hbbx.cell 2 rfl
  have lbx := hbbx.lt
  clear hbbx
  go_wp2_with fail
  refine (new_any G _ a1 n1 d1 a2 n2 d2 a3 n3 d3 ((HS.out.now).2.1)).mono ?_
  rintro e wq2 hp
  rcases hp with ⟨hmay, p0, rfl, _, hmm⟩ | ⟨hno, rfl, hmm⟩
  case inr =>
    replace HS := Lib.hid (HS.out.step hmm)
    clear qbx_0 qbx_1 qbx_2 lbx
    go_wp2_with fail
    go_ret2
    exact .inr ⟨hno, rfl, (HS.out.now).2.2⟩
  case inl =>
    replace HS := Lib.hid (HS.out.step hmm)
    clear hmm
    clear qbx_0 qbx_1 qbx_2 lbx
    have hbbx := (HS.out.now).1
    have qbx_0 := hbbx.cell 0 rfl
    have qbx_1 := hbbx.cell 1 rfl
    have qbx_2 := hbbx.cell 2 rfl
    have lbx := hbbx.lt
    clear hbbx
    have HMAY := Lib.hid hmay
    have h1n : n1 ≤ 256 := by have := hmay.1.1.2; have := hn.out; omega
    have h2n : n2 ≤ 512 := by have := hmay.1.2.1; have := he.out; omega
    have h3n : n3 ≤ 1024 := by have := hmay.1.2.2; have := hb.out; omega
    clear hmay
    have hcv : (convert 27 27 (.slice (some ⟨wq2.heap.size + 1, 0, none⟩) 4 4)).run Try.prog ((wq2.alloc (.cells #[.slice none 0 0, .bool false] 59)).alloc (.cells #[.int .u8 77, .int .u8 73, .int .u8 76, .int .u8 69] 5)) = .ok (.slice (some ⟨wq2.heap.size + 1, 0, none⟩) 4 4) ((wq2.alloc (.cells #[.slice none 0 0, .bool false] 59)).alloc (.cells #[.int .u8 77, .int .u8 73, .int .u8 76, .int .u8 69] 5 (4, 5))) := by have h := Lib.run_convert_bytes_const (P := Try.prog) (wq2.alloc (.cells #[.slice none 0 0, .bool false] 59)) 27 5 #[.int .u8 77, .int .u8 73, .int .u8 76, .int .u8 69] 4 4 Try.underlying27 Try.underlying5; rw [heap_size_alloc] at h; exact h
    go_wp2_with fail
    clear hcv
    obtain ⟨p, hp⟩ : ∃ b, wq2.heap.size = b := ⟨_, rfl⟩
    have h0 : WrSt wq2 (wq2.alloc (.cells #[.slice none 0 0, .bool false] 59)) wq2.heap.size (some []) (fun k => k = wq2.heap.size) := ⟨Wr.new _ rfl, fun k e => by omega, Mod.alloc _ _ _⟩
    have h1 := h0.later (Mod.alloc (fun _ => False) _ (.cells #[.int .u8 77, .int .u8 73, .int .u8 76, .int .u8 69] 5 (4, 5)))
    refine (raw_any wq2.heap.size _ (some []) (fun k => k = wq2.heap.size) h1.r _ [77, 73, 76, 69] (Rd.lit _ [.int .u8 77, .int .u8 73, .int .u8 76, .int .u8 69] _ _ 4 (by simp) rfl (by omega)) (by simp)).mono ?_
    rintro e w1 ⟨rfl, F1, hW, hA⟩
    have h2 := h1.aft hW hA
    clear h0 h1 hW hA
    rw [hp] at h2 ⊢
    have hlow : wq2.heap.size ≤ p := by omega
    have HP := Lib.hid hp
    clear hp
    have h2 : WrSt wq2 w1 p (some [77, 73, 76, 69]) F1 := h2
    clear qbx_0 qbx_1 qbx_2 lbx
    have hbx := (HS.out.at h2.mod).1
    have qx0 := hbx.cell 0 rfl
    have qx1 := hbx.cell 1 rfl
    have qx2 := hbx.cell 2 rfl
    have lbx := hbx.lt
    clear hbx
    go_wp2_with fail
    clear qx0 qx1 qx2 lbx
    have h3 := h2.later (Mod.alloc (fun _ => False) w1 (.cells #[.int .i64 (n1 : Int), .int .i64 (n2 : Int), .int .i64 (n3 : Int)] 3))
    refine (nums_any p _ (some [77, 73, 76, 69]) F1 h3.r 2 _ [(n1 : Int), (n2 : Int), (n3 : Int)] (Rd.lit _ [.int .i64 (n1 : Int), .int .i64 (n2 : Int), .int .i64 (n3 : Int)] _ _ 3 rfl rfl (by omega)) (fun k hk hf => absurd hf (h2.apart (by intro k hk; simp [Value.ownBlock] at hk; omega) k hk)) (by simp)).mono ?_
    rintro e w2 ⟨rfl, F2, hW, hA⟩
    have h4 := h3.aft hW hA
    clear h2 h3 hW hA
    rw [nums_all _ _ (by intro x hx; simp at hx; omega), show [77, 73, 76, 69] ++ nb2 [(n1 : Int), (n2 : Int), (n3 : Int)] = hdG G from by unfold hdG; rw [hn.out, he.out, hb.out]] at h4
    have HL0 := Lib.hid (hdG_len G)
    obtain ⟨m1, hm1⟩ : ∃ k, n1 = k := ⟨_, rfl⟩
    obtain ⟨m2, hm2⟩ : ∃ k, n2 = k := ⟨_, rfl⟩
    obtain ⟨m3, hm3⟩ : ∃ k, n3 = k := ⟨_, rfl⟩
    clear hm1 hm2 hm3
    have HNL := Lib.hid hn.out
    have HEL := Lib.hid he.out
    have hbx := (HS.out.at h4.mod).1
    have qx0 := hbx.cell 0 rfl
    have qx1 := hbx.cell 1 rfl
    have qx2 := hbx.cell 2 rfl
    have lbx := hbx.lt
    clear hbx
    go_wp2_with fail
    clear qx0 qx1 qx2 lbx
    have H1 := Lib.hid h4
    go_loopw [42] (fun i wr => ∃ (k : Nat) (FF : Nat → Prop), k ≤ n1 ∧ i = .int .i64 k ∧ WrSt wq2 wr p (some (hdG G ++ (G.N.take k).flatMap nodeB)) FF) (fun i _ => n1 - (intOf i).toNat)
    case atStart => exact ⟨0, F2, by omega, rfl, by simpa using H1.out⟩
    case round =>
      obtain ⟨k, FF, hk, rfl, hst⟩ := hrel
      obtain ⟨wo, hwo⟩ : ∃ x : World, x = wr := ⟨_, rfl⟩
      subst hwo
      have HT := Lib.hid hst
      clear hst
      by_cases hlt : k < n1
      case pos =>
        have hkl : k < G.N.length := by rw [hn.out]; exact hlt
        have z0 : decide ((k : Int) < (n1 : Int)) = true := by simp; omega
        have hrg := may_node G HMAY.out k hkl
        have htk := fm_take nodeB G.N k hkl
        obtain ⟨x0, HXx00⟩ : ∃ qz, (G.N[k]).1 = qz := ⟨_, rfl⟩
        have HXx0 := Lib.hid HXx00
        clear HXx00
        obtain ⟨x1, HXx10⟩ : ∃ qz, (G.N[k]).2 = qz := ⟨_, rfl⟩
        have HXx1 := Lib.hid HXx10
        clear HXx10
        rw [show nodeB G.N[k] = nb2 [x0, x1] from by rw [← HXx0.out, ← HXx1.out]; rfl] at htk
        rw [HXx0.out, HXx1.out] at hrg
        obtain ⟨eb, eo, hpl, e0, e1⟩ := rd2 (HS.out.now).2.1.rn k hkl
        have hix := fun wx => run_indexS (P := Try.prog) wx 22 50 iN 2 Try.underlying22 hiN hsN a1 n1 d1 k hlt ((HS.out.now).2.1.rn.some_ (by have := hlt; omega))
        rw [hpl] at hix
        have HIe := Lib.hid hix
        clear hix hpl
        rw [HXx0.out] at e0
        replace HS := Lib.hid ((Ev.cell e0).and HS.out)
        clear e0
        rw [HXx1.out] at e1
        replace HS := Lib.hid ((Ev.cell e1).and HS.out)
        clear e1
        have qe0 := (HS.out.at HT.out.mod).2.1
        have qe1 := (HS.out.at HT.out.mod).1
        have hix := HIe.out
        obtain ⟨bs, hbs⟩ : ∃ l, hdG G ++ (G.N.take k).flatMap nodeB = l := ⟨_, rfl⟩
        have hbl : bs.length ≤ 100000 := by rw [← hbs, List.length_append, HL0.out]; have := fm_take_len nodeB 4 nodeB_len G.N k; have := hn.out; omega
        have HBS := Lib.hid hbs
        have HTK := Lib.hid htk
        have h5 := HT.out
        rw [hbs] at h5
        clear hbs htk
        go_wp2_with fail
        have h6 := h5.later (Mod.alloc (fun _ => False) wo (.cells #[.int .i64 x0, .int .i64 x1] 50))
        have h7 := h6.later (Mod.alloc (fun _ => False) _ (.cells #[.int .i64 x0, .int .i64 x1] 3))
        refine (nums_any p _ (some bs) FF h7.r 2 _ [x0, x1] (Rd.lit _ [.int .i64 x0, .int .i64 x1] _ _ 2 (by simp) rfl (by omega)) (fun k hk hf => absurd hf (h6.apart (by intro k hk; simp [Value.ownBlock] at hk; simp; omega) k hk)) (by simp; omega)).mono ?_
        rintro e w5 ⟨rfl, F5, hW, hA⟩
        have h8 := h7.aft hW hA
        rw [nums_all _ _ (by intro x hx; simp at hx; omega)] at h8
        have H8 := Lib.hid h8
        clear h5 h6 h7 h8 hW hA
        go_wp2_with fail
        go_roundw
        case rel => exact ⟨k + 1, F5, hlt, by go_num, by rw [HTK.out, ← List.append_assoc, HBS.out]; exact H8.out⟩
        case measure => simp [intOf]; omega
      case neg =>
        have hke : k = n1 := by omega
        have z0 : decide ((k : Int) < (n1 : Int)) = false := by rw [hke]; simp
        have hq1 := HT.out
        rw [hke, List.take_of_length_le (by rw [hn.out]; exact Nat.le_refl _)] at hq1
        clear hke
        clear HT
        have hbx := (HS.out.at hq1.mod).1
        have qx0 := hbx.cell 0 rfl
        have qx1 := hbx.cell 1 rfl
        have qx2 := hbx.cell 2 rfl
        have lbx := hbx.lt
        clear hbx
        go_wp2_with fail
        clear qx0 qx1 qx2 lbx
        clear z0
        have H2 := Lib.hid hq1
        go_loopw [57] (fun i wr => ∃ (k : Nat) (FF : Nat → Prop), k ≤ n2 ∧ i = .int .i64 k ∧ WrSt wq2 wr p (some ((hdG G ++ G.N.flatMap nodeB) ++ (G.E.take k).flatMap edgeB)) FF) (fun i _ => n2 - (intOf i).toNat)
        case atStart => exact ⟨0, FF, by omega, rfl, by simpa using H2.out⟩
        case round =>
          obtain ⟨k, FF, hk, rfl, hst⟩ := hrel
          obtain ⟨wo, hwo⟩ : ∃ x : World, x = wr := ⟨_, rfl⟩
          subst hwo
          have HT := Lib.hid hst
          clear hst
          by_cases hlt : k < n2
          case pos =>
            have hkl : k < G.E.length := by rw [he.out]; exact hlt
            have z0 : decide ((k : Int) < (n2 : Int)) = true := by simp; omega
            have hrg := may_edge G HMAY.out k hkl
            have htk := fm_take edgeB G.E k hkl
            obtain ⟨x0, HXx00⟩ : ∃ qz, (G.E[k]).1 = qz := ⟨_, rfl⟩
            have HXx0 := Lib.hid HXx00
            clear HXx00
            obtain ⟨x1, HXx10⟩ : ∃ qz, (G.E[k]).2.1 = qz := ⟨_, rfl⟩
            have HXx1 := Lib.hid HXx10
            clear HXx10
            obtain ⟨x2, HXx20⟩ : ∃ qz, (G.E[k]).2.2 = qz := ⟨_, rfl⟩
            have HXx2 := Lib.hid HXx20
            clear HXx20
            rw [show edgeB G.E[k] = nb2 [x0, x1, x2] from by rw [← HXx0.out, ← HXx1.out, ← HXx2.out]; rfl] at htk
            rw [HXx0.out, HXx1.out, HXx2.out] at hrg
            obtain ⟨eb, eo, hpl, e0, e1, e2⟩ := rd3 (HS.out.now).2.1.re k hkl
            have hix := fun wx => run_indexS (P := Try.prog) wx 23 52 iE 3 Try.underlying23 hiE hsE a2 n2 d2 k hlt ((HS.out.now).2.1.re.some_ (by have := hlt; omega))
            rw [hpl] at hix
            have HIe := Lib.hid hix
            clear hix hpl
            rw [HXx0.out] at e0
            replace HS := Lib.hid ((Ev.cell e0).and HS.out)
            clear e0
            rw [HXx1.out] at e1
            replace HS := Lib.hid ((Ev.cell e1).and HS.out)
            clear e1
            rw [HXx2.out] at e2
            replace HS := Lib.hid ((Ev.cell e2).and HS.out)
            clear e2
            have qe0 := (HS.out.at HT.out.mod).2.2.1
            have qe1 := (HS.out.at HT.out.mod).2.1
            have qe2 := (HS.out.at HT.out.mod).1
            have hix := HIe.out
            obtain ⟨bs, hbs⟩ : ∃ l, (hdG G ++ G.N.flatMap nodeB) ++ (G.E.take k).flatMap edgeB = l := ⟨_, rfl⟩
            have hbl : bs.length ≤ 100000 := by rw [← hbs, List.length_append, List.length_append, HL0.out, fm_len2 nodeB 4 nodeB_len, HNL.out]; have := fm_take_len edgeB 6 edgeB_len G.E k; have := he.out; omega
            have HBS := Lib.hid hbs
            have HTK := Lib.hid htk
            have h5 := HT.out
            rw [hbs] at h5
            clear hbs htk
            go_wp2_with fail
            have h6 := h5.later (Mod.alloc (fun _ => False) wo (.cells #[.int .i64 x0, .int .i64 x1, .int .i64 x2] 52))
            have h7 := h6.later (Mod.alloc (fun _ => False) _ (.cells #[.int .i64 x0, .int .i64 x1, .int .i64 x2] 3))
            refine (nums_any p _ (some bs) FF h7.r 2 _ [x0, x1, x2] (Rd.lit _ [.int .i64 x0, .int .i64 x1, .int .i64 x2] _ _ 3 (by simp) rfl (by omega)) (fun k hk hf => absurd hf (h6.apart (by intro k hk; simp [Value.ownBlock] at hk; simp; omega) k hk)) (by simp; omega)).mono ?_
            rintro e w5 ⟨rfl, F5, hW, hA⟩
            have h8 := h7.aft hW hA
            rw [nums_all _ _ (by intro x hx; simp at hx; omega)] at h8
            have H8 := Lib.hid h8
            clear h5 h6 h7 h8 hW hA
            go_wp2_with fail
            go_roundw
            case rel => exact ⟨k + 1, F5, hlt, by go_num, by rw [HTK.out, ← List.append_assoc, HBS.out]; exact H8.out⟩
            case measure => simp [intOf]; omega
          case neg =>
            have hke : k = n2 := by omega
            have z0 : decide ((k : Int) < (n2 : Int)) = false := by rw [hke]; simp
            have hq2 := HT.out
            rw [hke, List.take_of_length_le (by rw [he.out]; exact Nat.le_refl _)] at hq2
            clear hke
            clear HT
            have hbx := (HS.out.at hq2.mod).1
            have qx0 := hbx.cell 0 rfl
            have qx1 := hbx.cell 1 rfl
            have qx2 := hbx.cell 2 rfl
            have lbx := hbx.lt
            clear hbx
            go_wp2_with fail
            clear qx0 qx1 qx2 lbx
            clear z0
            have H3 := Lib.hid hq2
            go_loopw [74] (fun i wr => ∃ (k : Nat) (FF : Nat → Prop), k ≤ n3 ∧ i = .int .i64 k ∧ WrSt wq2 wr p (some ((hdG G ++ G.N.flatMap nodeB ++ G.E.flatMap edgeB) ++ (G.B.take k).flatMap nodeB)) FF) (fun i _ => n3 - (intOf i).toNat)
            case atStart => exact ⟨0, FF, by omega, rfl, by simpa using H3.out⟩
            case round =>
              obtain ⟨k, FF, hk, rfl, hst⟩ := hrel
              obtain ⟨wo, hwo⟩ : ∃ x : World, x = wr := ⟨_, rfl⟩
              subst hwo
              have HT := Lib.hid hst
              clear hst
              by_cases hlt : k < n3
              case pos =>
                have hkl : k < G.B.length := by rw [hb.out]; exact hlt
                have z0 : decide ((k : Int) < (n3 : Int)) = true := by simp; omega
                have hrg := may_ban G HMAY.out k hkl
                have htk := fm_take nodeB G.B k hkl
                obtain ⟨x0, HXx00⟩ : ∃ qz, (G.B[k]).1 = qz := ⟨_, rfl⟩
                have HXx0 := Lib.hid HXx00
                clear HXx00
                obtain ⟨x1, HXx10⟩ : ∃ qz, (G.B[k]).2 = qz := ⟨_, rfl⟩
                have HXx1 := Lib.hid HXx10
                clear HXx10
                rw [show nodeB G.B[k] = nb2 [x0, x1] from by rw [← HXx0.out, ← HXx1.out]; rfl] at htk
                rw [HXx0.out, HXx1.out] at hrg
                obtain ⟨eb, eo, hpl, e0, e1⟩ := rd2 (HS.out.now).2.1.rb k hkl
                have hix := fun wx => run_indexS (P := Try.prog) wx 24 63 iB 2 Try.underlying24 hiB hsB a3 n3 d3 k hlt ((HS.out.now).2.1.rb.some_ (by have := hlt; omega))
                rw [hpl] at hix
                have HIe := Lib.hid hix
                clear hix hpl
                rw [HXx0.out] at e0
                replace HS := Lib.hid ((Ev.cell e0).and HS.out)
                clear e0
                rw [HXx1.out] at e1
                replace HS := Lib.hid ((Ev.cell e1).and HS.out)
                clear e1
                have qe0 := (HS.out.at HT.out.mod).2.1
                have qe1 := (HS.out.at HT.out.mod).1
                have hix := HIe.out
                obtain ⟨bs, hbs⟩ : ∃ l, (hdG G ++ G.N.flatMap nodeB ++ G.E.flatMap edgeB) ++ (G.B.take k).flatMap nodeB = l := ⟨_, rfl⟩
                have hbl : bs.length ≤ 100000 := by rw [← hbs, List.length_append, List.length_append, List.length_append, HL0.out, fm_len2 nodeB 4 nodeB_len, fm_len2 edgeB 6 edgeB_len, HNL.out, HEL.out]; have := fm_take_len nodeB 4 nodeB_len G.B k; have := hb.out; omega
                have HBS := Lib.hid hbs
                have HTK := Lib.hid htk
                have h5 := HT.out
                rw [hbs] at h5
                clear hbs htk
                go_wp2_with fail
                have h6 := h5.later (Mod.alloc (fun _ => False) wo (.cells #[.int .i64 x0, .int .i64 x1] 63))
                have h7 := h6.later (Mod.alloc (fun _ => False) _ (.cells #[.int .i64 x0, .int .i64 x1] 3))
                refine (nums_any p _ (some bs) FF h7.r 2 _ [x0, x1] (Rd.lit _ [.int .i64 x0, .int .i64 x1] _ _ 2 (by simp) rfl (by omega)) (fun k hk hf => absurd hf (h6.apart (by intro k hk; simp [Value.ownBlock] at hk; simp; omega) k hk)) (by simp; omega)).mono ?_
                rintro e w5 ⟨rfl, F5, hW, hA⟩
                have h8 := h7.aft hW hA
                rw [nums_all _ _ (by intro x hx; simp at hx; omega)] at h8
                have H8 := Lib.hid h8
                clear h5 h6 h7 h8 hW hA
                go_wp2_with fail
                go_roundw
                case rel => exact ⟨k + 1, F5, hlt, by go_num, by rw [HTK.out, ← List.append_assoc, HBS.out]; exact H8.out⟩
                case measure => simp [intOf]; omega
              case neg =>
                have hke : k = n3 := by omega
                have z0 : decide ((k : Int) < (n3 : Int)) = false := by rw [hke]; simp
                have hq3 := HT.out
                rw [hke, List.take_of_length_le (by rw [hb.out]; exact Nat.le_refl _)] at hq3
                clear hke
                clear HT
                go_wp2_with fail
                clear z0
                have h5 : WrSt wq2 wo p (some (ahG G)) FF := hq3
                clear hq3
                have hl := ahG_len G
                have hrg := ahG_range G
                have hal : (ahG G).length ≤ 100000 := by rw [hl, hn.out, he.out, hb.out]; omega
                have hfg : fileG G = ahG G ++ digs (csum (ahG G)).toNat 4 := rfl
                have HFG := Lib.hid hfg
                clear hl hfg
                obtain ⟨HD, hHD⟩ : ∃ l, ahG G = l := ⟨_, rfl⟩
                rw [hHD] at h5 hrg hal HFG
                clear hHD
                obtain ⟨ln, hln⟩ : ∃ n, HD.length = n := ⟨_, rfl⟩
                refine (bytes_any p _ _ FF h5.r (by simp; omega)).mono ?_
                rintro e w6 ⟨v6, rfl, hF6, hM6, a6, c6, rfl⟩
                have h6 := h5.later hM6
                have hb6 : Rd w6 1 (.slice a6 HD.length c6) HD.length (HD.map (Value.int .u8)) := Rd.ofOwn hF6
                have HX3 := Lib.hid h5
                clear hF6 hM6 h5
                rw [hln] at hb6
                go_wp2_with fail
                have hfl : csum (flat [(Value.slice a6 ln c6, HD)]) = csum HD := by simp [flat]
                refine (sum_any _ 1 1 [(.slice a6 ln c6, HD)] _ rfl (Parts.one1 (Rd.one w6 _ _) (by rw [hln]; exact hb6.alloc _) hrg)).mono ?_
                rw [hfl]
                clear hfl hb6
                rintro e w7 ⟨rfl, rfl⟩
                have h7 := h6.later (Mod.alloc (fun _ => False) w6 (.cells #[.slice a6 ln c6] 27))
                have hfit := sum_fits (csum HD)
                have hlt := (csum HD).isLt
                obtain ⟨sm, hsm⟩ : ∃ sm, (csum HD).toNat = sm := ⟨_, rfl⟩
                rw [hsm] at hfit hlt HFG
                rw [hsm]
                have HS1 := Lib.hid hfit
                clear hfit hsm h6
                have hlt2 : sm < 4294967296 := by simpa using hlt
                clear hlt
                obtain ⟨w8, hw8⟩ : ∃ W, w6.alloc (.cells #[.slice a6 ln c6] 27) = W := ⟨_, rfl⟩
                rw [hw8] at h7 ⊢
                clear hw8
                go_wp2_with fail
                have h8 := h7.later (Mod.alloc (fun _ => False) w8 (.cells #[.int .i64 (sm : Int)] 3))
                refine (nums_any p _ (some HD) FF h8.r 4 _ [(sm : Int)] (Rd.one w8 _ _) (fun k hk hf => absurd hf (h7.apart (by intro k hk; simp [Value.ownBlock] at hk; omega) k hk)) (by simp; omega)).mono ?_
                rintro e w9 ⟨rfl, F9, hW, hA⟩
                rw [nums_one 4 4 (sm : Int) _ rfl (by decide) HS1.out] at hW
                have h9 := h8.aft hW hA
                clear h7 h8 hW hA
                rw [← HFG.out] at h9
                go_wp2_with fail
                have hfb : (fileG G).length ≤ 200000 := by rw [HFG.out, List.length_append, digs_length, hln]; omega
                refine (bytes_any p _ _ F9 h9.r (by simp; omega)).mono ?_
                rintro e wz ⟨v9, rfl, hF9, hM9, a9, c9, rfl⟩
                have hmz := h9.mod.of2 hM9
                have HMZ := Lib.hid hmz
                have HF9 := Lib.hid (Own.base hF9 (Nat.le_trans ((HS.out.now).2.2).size h9.mod.size))
                have HM0 := Lib.hid ((HS.out.now).2.2)
                clear hF9 hM9 h9 hmz
                go_wp2_with fail
                go_ret2
                exact .inl ⟨HMAY.out, a9, c9, rfl, HF9.out, HM0.out.of2 HMZ.out⟩
end Go.Proofs.Ytdccpikddhpleaa
