/- KBM of the stage: texts Xg5, joined. -/
import Derived.Test.YtnlkdlnmffibhaaGreatKBL
set_option linter.unusedSimpArgs false
set_option linter.unusedVariables false
set_option maxRecDepth 8000
namespace Go.Proofs.YtnlkdlnmffibhaaGreat
section
open Go.RowKit Go.Maps
theorem GotX.upY {gO : Nat → Prop} {W W' : World} {g g' : Xg} {A : Option Addr} {n c : Nat} {l : List MX} {rd : List Msg} (h : GotX gO W g A n c l rd) (hl : Xl W g W' g') : MSl W' A n c l := h.ms.kept hl.part fun a ea => (h.no a ea).1
theorem one_got {W : World} {A : Option Addr} {n c : Nat} {l : List MX} {m : Msg} (h : MSl W A n c l) (hi : l.map MX.msg = [m]) : n = 1 ∧ ∃ b o x, A = some ⟨b, o, none⟩ ∧ b < W.heap.size ∧ l = [x] ∧ x.msg = m ∧ W.cell? ⟨b, o, none⟩ = some (.int .u16 x.st) ∧ W.cell? ⟨b, o + 1, none⟩ = some (.bool x.un) ∧ W.cell? ⟨b, o + 2, none⟩ = some (.int .u32 x.pp) ∧ W.cell? ⟨b, o + 3, none⟩ = some (.slice x.da.1 x.da.2.1 x.da.2.2) := by
  have hl : l.length = 1 := by have := congrArg List.length hi; simpa using this
  obtain ⟨x, rfl⟩ := List.length_eq_one_iff.1 hl
  have hn : n = 1 := h.1
  subst hn
  obtain ⟨b, o, y, e1, e2, ⟨e3, e4, e5, e6⟩, e7⟩ := h.at_ (j := 0) (by decide)
  injection e7 with e7
  subst e7
  rw [Nat.zero_mul, Nat.add_zero] at e3 e4 e5 e6
  refine ⟨rfl, b, o, x, e1, e2, rfl, ?_, e3, e4, e5, e6⟩
  simpa using hi
theorem RK.open_ {W : World} {gx gy : Xg} {A : Option Addr} {c : Nat} {y0 : CZ} (h : RK W gx gy A c y0) : ∃ g, A = some ⟨g, 0, none⟩ ∧ g < W.heap.size ∧ W.cell? ⟨g, 0, none⟩ = some (.int .u8 y0.kd) ∧ W.cell? ⟨g, 1, none⟩ = some (.int .u8 y0.fl) ∧ W.cell? ⟨g, 2, none⟩ = some (.int .u32 y0.a) ∧ W.cell? ⟨g, 3, none⟩ = some (.int .u32 y0.b) ∧ W.cell? ⟨g, 4, none⟩ = some (.int .u16 y0.ou) ∧ W.cell? ⟨g, 5, none⟩ = some (.int .u16 y0.si) ∧ W.cell? ⟨g, 6, none⟩ = some (.int .u32 y0.pp) ∧
    W.cell? ⟨g, 7, none⟩ = some (.slice y0.bl.1 y0.bl.2.1 y0.bl.2.2) ∧ W.cell? ⟨g, 8, none⟩ = some (.slice y0.du.1 y0.du.2.1 y0.du.2.2) ∧ W.cell? ⟨g, 9, none⟩ = some (.slice y0.sk.1 y0.sk.2.1 y0.sk.2.2) ∧ W.cell? ⟨g, 10, none⟩ = some (.slice y0.pr.1 y0.pr.2.1 y0.pr.2.2) ∧ W.cell? ⟨g, 11, none⟩ = some (.slice y0.da.1 y0.da.2.1 y0.da.2.2) := by
  obtain ⟨g, h1, h2, h3⟩ := h.cells
  unfold Z12 at h3
  simp only [Nat.zero_add] at h3
  exact ⟨g, h1, h2, h3⟩
theorem SK.open_ {W : World} {gx gy : Xg} {A : Option Addr} {c : Nat} {f B : Int} {bl du : SL} {T : List Int} (h : SK W gx gy A c f B bl du T) : ∃ g, A = some ⟨g, 0, none⟩ ∧ g < W.heap.size ∧ W.cell? ⟨g, 0, none⟩ = some (.int .u8 3) ∧ W.cell? ⟨g, 1, none⟩ = some (.int .u8 0) ∧ W.cell? ⟨g, 2, none⟩ = some (.int .u32 f) ∧ W.cell? ⟨g, 3, none⟩ = some (.int .u32 B) ∧ W.cell? ⟨g, 4, none⟩ = some (.int .u16 0) ∧ W.cell? ⟨g, 5, none⟩ = some (.int .u16 0) ∧ W.cell? ⟨g, 6, none⟩ = some (.int .u32 0) ∧
    W.cell? ⟨g, 7, none⟩ = some (.slice bl.1 bl.2.1 bl.2.2) ∧ W.cell? ⟨g, 8, none⟩ = some (.slice du.1 du.2.1 du.2.2) ∧ W.cell? ⟨g, 9, none⟩ = some (.slice none 0 0) ∧ W.cell? ⟨g, 10, none⟩ = some (.slice none 0 0) ∧ W.cell? ⟨g, 11, none⟩ = some (.slice none 0 0) := by
  obtain ⟨g, h1, h2, h3⟩ := h.cells
  exact ⟨g, h1, h2, h3 0 _ rfl, h3 1 _ rfl, h3 2 _ rfl, h3 3 _ rfl, h3 4 _ rfl, h3 5 _ rfl, h3 6 _ rfl, h3 7 _ rfl, h3 8 _ rfl, h3 9 _ rfl, h3 10 _ rfl, h3 11 _ rfl⟩
set_option maxHeartbeats 8000000 in
theorem awakeX (w : World) : Calls Tryz.prog 5 #[] w fun e w' => e = .returned (.bool true) ∧ Below w.heap.size w w' := by
  have KP := keep (pair_any (Below.refl w.heap.size w) 7 900 1200 (by decide) (by decide))
  have KSe := keep (fun W gx gy (H : YY w W gx gy (x0 7 900 65536 4 1200 4) (x0 900 7 65536 4 1200 4)) => (show Calls Tryz.prog 7 #[.pointer (some ⟨gx.b, 0, none⟩), .agg #[.int .u16 1, .bool false, .int .u32 5, .slice (some ⟨W.heap.size, 0, none⟩) 2 2], .int .i64 (-1), .int .i64 (-1), .int .i64 0] (W.alloc (.cells #[.int .u8 1, .int .u8 2] 5)) _ from s_send (s := 1) (pp := 5) (by decide) (H.step (below_lay _ _)) (by decide) (by decide) (BS.laid W 5 [1, 2] (by decide)) (by decide) (by decide) 0))
  go_enter Tryz.func5, Tryz.ntmps5
  go_wp2_with (first
    | (go_at_call 6; refine KP.out.mono ?_; rintro e w1 ⟨gx, gy, rfl, H1⟩)
    | (go_at_call 7; refine (KSe.out _ _ _ H1.out).mono ?_; rintro e w2 ⟨rfl, gx2, x2, e0, hb2, H2⟩
       have KT2 := s_tell H2.out.1 H2.out.2 (by decide) (by decide) 10
       rw [hb2] at KT2
       replace KT2 := keep KT2
       have HB2 := keep hb2
       clear hb2)
    | (go_at_call_of 8 gx; refine KT2.out.mono ?_; rintro e w3 ⟨A, c, y0, x3, rfl, H3⟩
       have hct : y0.ct = ctO 7 1 5 ([(1 : Int), 2].map b8) := H3.out.2.2.1.trans H2.out.2.ct
       have KH := s_hear1 H3.out.1 (x0_y0 900 7) H3.out.2.1 hct (by decide) (by decide) (by decide) (by decide) 20
       have ha0 : y0.a = 7 := congrArg Ct.a hct
       obtain ⟨g3, rfl, hg3, z0, z1, z2, z3, z4, z5, z6, z7, z8, z9, z10, z11⟩ := H3.out.2.1.open_
       dsimp only [CZ.cells] at KH
       rw [ha0] at KH z2
       replace KH := keep KH
       clear hct ha0)
    | (go_at_call_of 13 gy; refine KH.out.mono ?_; rintro e w4 ⟨rfl, gy4, y4, hb4, H4⟩
       have KM := s_msgs H4.out.1 H4.out.2.1
       rw [hb4] at KM
       replace KM := keep KM
       have HB4 := keep hb4
       clear hb4 z0 z1 z2 z3 z4 z5 z6 z7 z8 z9 z10 z11)
    | (go_at_call 14; refine KM.out.mono ?_; rintro e w5 ⟨A5, n5, c5, l5, gy5, y5, rfl, hb5, H5⟩
       have KT5 := s_tellY H5.out.1 H5.out.2.1 20
       rw [hb5] at KT5
       replace KT5 := keep KT5
       have HB5 := keep hb5
       clear hb5)
    | (go_at_call_of 8 gy; refine KT5.out.mono ?_; rintro e w6 ⟨A6, c6, bl6, du6, gy6, y6, B6, rfl, hb6, H6⟩
       have HB6 := keep hb6
       clear hb6
       obtain ⟨rfl, b5, o5, m5, rfl, hlt5, rfl, hm5, v0, v1, v2, v3⟩ := one_got (H5.out.2.2.2.upY H6.out.2.2.1) H5.out.2.2.2.is
       obtain ⟨g6, rfl, hg6, u0, u1, u2, u3, u4, u5, u6, u7, u8, u9, u10, u11⟩ := H6.out.2.2.2.1.open_
       have hpp : m5.pp = 5 := congrArg Msg.pp hm5
       rw [hpp] at v2
       have KI6 := xIdle_no H6.out.1.a (H3.out.2.2.2.1)
       rw [HB2.out] at KI6
       replace KI6 := keep KI6
       have KS6 := s_sack H6.out.1 H3.out.2.2.2.1 H3.out.2.2.2.2.1 H2.out.2.sn H3.out.2.2.2.2.2 (by decide) H6.out.2.2.2.2 ⟨H6.out.2.2.2.1.bl0, Nat.zero_le _⟩ 30 (by decide) (by decide) (bl := bl6) (du := du6)
       rw [HB2.out] at KS6
       dsimp only [sackC] at KS6
       replace KS6 := keep KS6
       clear hpp hm5 v0 v1 v3)
    | (go_at_call_of 13 gx; refine KS6.out.mono ?_; rintro e w7 ⟨rfl, gx7, x7, hb7, H7⟩
       have KI7 := xIdle_yes H7.out.1.a H7.out.2.1 H7.out.2.2.1
       rw [hb7] at KI7
       replace KI7 := keep KI7
       have KJ7 := xIdle_yes H7.out.1.b H6.out.2.1.es H6.out.2.1.ow
       rw [HB6.out] at KJ7
       replace KJ7 := keep KJ7
       clear hb7)
    | (go_at_call_of 15 gy; refine KJ7.out.mono ?_; rintro e w' ⟨rfl, rfl⟩)
    | (go_at_call_of 15 gx
       first
       | (have _ := H7; refine KI7.out.mono ?_; rintro e w' ⟨rfl, rfl⟩)
       | (refine KI6.out.mono ?_; rintro e w' ⟨rfl, rfl⟩)))
  all_goals go_ret
  all_goals exact ⟨rfl, H7.out.1.be⟩
end
end Go.Proofs.YtnlkdlnmffibhaaGreat
