/- KBM of the stage: texts Xg5, CkO, CkF, SFrame, joined. -/
import Derived.Test.YtikiooofoaclmaaGreatKBL
import Derived.Test.YtikiooofoaclmaaGreatKAB
import Derived.Test.YtikiooofoaclmaaGreatKAA
import Derived.Deep.Slices
import Derived.Deep.Fields
import Derived.ChangeSame
import Derived.ChangeArms
set_option linter.unusedSimpArgs false
set_option linter.unusedVariables false
set_option maxRecDepth 8000
namespace Go.Proofs.YtikiooofoaclmaaGreat
section
open Go.RowKit Go.Maps
theorem GotX.upY {gO : Nat → Prop} {W W' : World} {g g' : Xg} {A : Option Addr} {n c : Nat} {l : List MX} {rd : List Msg} (h : GotX gO W g A n c l rd) (hl : Xl W g W' g') : MSl W' A n c l := h.ms.kept hl.part fun a ea => (h.no a ea).1
theorem one_got {W : World} {A : Option Addr} {n c : Nat} {l : List MX} {m : Msg} (h : MSl W A n c l) (hi : l.map MX.msg = [m]) : n = 1 ∧ ∃ b o x, A = some ⟨b, o, none⟩ ∧ b < W.heap.size ∧ l = [x] ∧ x.msg = m ∧ W.cell? ⟨b, o, none⟩ = some (.int .u16 x.st) ∧ W.cell? ⟨b, o + 1, none⟩ = some (.bool x.un) ∧ W.cell? ⟨b, o + 2, none⟩ = some (.int .u32 x.pp) ∧ W.cell? ⟨b, o + 3, none⟩ = some (.slice x.da.1 x.da.2.1 x.da.2.2) := by
  have hl : l.length = 1 := by have := congrArg List.length hi; simpa using this
  obtain ⟨x, rfl⟩ := List.length_eq_one_iff.1 hl
  have hn : n = 1 := h.1
  subst hn
  obtain ⟨b, o, y, e1, e2, ⟨e3, e4, e5, e6⟩, e7⟩ := h.at_ (j := 0) (by decide)
  injection e7 with e7
  subst e7
  rw [Nat.zero_mul, Nat.add_zero] at e3 e4 e5 e6
  refine ⟨rfl, b, o, x, e1, e2, rfl, ?_, e3, e4, e5, e6⟩
  simpa using hi
theorem RK.open_ {W : World} {gx gy : Xg} {A : Option Addr} {c : Nat} {y0 : CZ} (h : RK W gx gy A c y0) : ∃ g, A = some ⟨g, 0, none⟩ ∧ g < W.heap.size ∧ W.cell? ⟨g, 0, none⟩ = some (.int .u8 y0.kd) ∧ W.cell? ⟨g, 1, none⟩ = some (.int .u8 y0.fl) ∧ W.cell? ⟨g, 2, none⟩ = some (.int .u32 y0.a) ∧ W.cell? ⟨g, 3, none⟩ = some (.int .u32 y0.b) ∧ W.cell? ⟨g, 4, none⟩ = some (.int .u16 y0.ou) ∧ W.cell? ⟨g, 5, none⟩ = some (.int .u16 y0.si) ∧ W.cell? ⟨g, 6, none⟩ = some (.int .u32 y0.pp) ∧
    W.cell? ⟨g, 7, none⟩ = some (.slice y0.bl.1 y0.bl.2.1 y0.bl.2.2) ∧ W.cell? ⟨g, 8, none⟩ = some (.slice y0.du.1 y0.du.2.1 y0.du.2.2) ∧ W.cell? ⟨g, 9, none⟩ = some (.slice y0.sk.1 y0.sk.2.1 y0.sk.2.2) ∧ W.cell? ⟨g, 10, none⟩ = some (.slice y0.pr.1 y0.pr.2.1 y0.pr.2.2) ∧ W.cell? ⟨g, 11, none⟩ = some (.slice y0.da.1 y0.da.2.1 y0.da.2.2) := by
  obtain ⟨g, h1, h2, h3⟩ := h.cells
  unfold Z12 at h3
  simp only [Nat.zero_add] at h3
  exact ⟨g, h1, h2, h3⟩
theorem SK.open_ {W : World} {gx gy : Xg} {A : Option Addr} {c : Nat} {f B : Int} {bl du : SL} {T : List Int} (h : SK W gx gy A c f B bl du T) : ∃ g, A = some ⟨g, 0, none⟩ ∧ g < W.heap.size ∧ W.cell? ⟨g, 0, none⟩ = some (.int .u8 3) ∧ W.cell? ⟨g, 1, none⟩ = some (.int .u8 0) ∧ W.cell? ⟨g, 2, none⟩ = some (.int .u32 f) ∧ W.cell? ⟨g, 3, none⟩ = some (.int .u32 B) ∧ W.cell? ⟨g, 4, none⟩ = some (.int .u16 0) ∧ W.cell? ⟨g, 5, none⟩ = some (.int .u16 0) ∧ W.cell? ⟨g, 6, none⟩ = some (.int .u32 0) ∧
    W.cell? ⟨g, 7, none⟩ = some (.slice bl.1 bl.2.1 bl.2.2) ∧ W.cell? ⟨g, 8, none⟩ = some (.slice du.1 du.2.1 du.2.2) ∧ W.cell? ⟨g, 9, none⟩ = some (.slice none 0 0) ∧ W.cell? ⟨g, 10, none⟩ = some (.slice none 0 0) ∧ W.cell? ⟨g, 11, none⟩ = some (.slice none 0 0) := by
  obtain ⟨g, h1, h2, h3⟩ := h.cells
  exact ⟨g, h1, h2, h3 0 _ rfl, h3 1 _ rfl, h3 2 _ rfl, h3 3 _ rfl, h3 4 _ rfl, h3 5 _ rfl, h3 6 _ rfl, h3 7 _ rfl, h3 8 _ rfl, h3 9 _ rfl, h3 10 _ rfl, h3 11 _ rfl⟩
set_option maxHeartbeats 8000000 in
theorem awakeX (w : World) : Calls Tryz.prog 7 #[] w fun e w' => e = .returned (.bool true) ∧ Below w.heap.size w w' := by
  have KP := keep (pair_any (Below.refl w.heap.size w) 7 900 1200 (by decide) (by decide))
  have KSe := keep (fun W gx gy (H : YY w W gx gy (x0 7 900 65536 4 1200 4) (x0 900 7 65536 4 1200 4)) => (show Calls Tryz.prog 9 #[.pointer (some ⟨gx.b, 0, none⟩), .agg #[.int .u16 1, .bool false, .int .u32 5, .slice (some ⟨W.heap.size, 0, none⟩) 2 2], .int .i64 (-1), .int .i64 (-1), .int .i64 0] (W.alloc (.cells #[.int .u8 1, .int .u8 2] 5)) _ from s_send (s := 1) (pp := 5) (by decide) (H.step (below_lay _ _)) (by decide) (by decide) (BS.laid W 5 [1, 2] (by decide)) (by decide) (by decide) 0))
  go_enter Tryz.func7, Tryz.ntmps7
  go_wp2_with (first
    | (go_at_call 8; refine KP.out.mono ?_; rintro e w1 ⟨gx, gy, rfl, H1⟩)
    | (go_at_call 9; refine (KSe.out _ _ _ H1.out).mono ?_; rintro e w2 ⟨rfl, gx2, x2, e0, hb2, H2⟩
       have KT2 := s_tell H2.out.1 H2.out.2 (by decide) (by decide) 10
       rw [hb2] at KT2
       replace KT2 := keep KT2
       have HB2 := keep hb2
       clear hb2)
    | (go_at_call_of 10 gx; refine KT2.out.mono ?_; rintro e w3 ⟨A, c, y0, x3, rfl, H3⟩
       have hct : y0.ct = ctO 7 1 5 ([(1 : Int), 2].map b8) := H3.out.2.2.1.trans H2.out.2.ct
       have KH := s_hear1 H3.out.1 (x0_y0 900 7) H3.out.2.1 hct (by decide) (by decide) (by decide) (by decide) 20
       have ha0 : y0.a = 7 := congrArg Ct.a hct
       obtain ⟨g3, rfl, hg3, z0, z1, z2, z3, z4, z5, z6, z7, z8, z9, z10, z11⟩ := H3.out.2.1.open_
       dsimp only [CZ.cells] at KH
       rw [ha0] at KH z2
       replace KH := keep KH
       clear hct ha0)
    | (go_at_call_of 15 gy; refine KH.out.mono ?_; rintro e w4 ⟨rfl, gy4, y4, hb4, H4⟩
       have KM := s_msgs H4.out.1 H4.out.2.1
       rw [hb4] at KM
       replace KM := keep KM
       have HB4 := keep hb4
       clear hb4 z0 z1 z2 z3 z4 z5 z6 z7 z8 z9 z10 z11)
    | (go_at_call 17; refine KM.out.mono ?_; rintro e w5 ⟨A5, n5, c5, l5, gy5, y5, rfl, hb5, H5⟩
       have KT5 := s_tellY H5.out.1 H5.out.2.1 20
       rw [hb5] at KT5
       replace KT5 := keep KT5
       have HB5 := keep hb5
       clear hb5)
    | (go_at_call_of 10 gy; refine KT5.out.mono ?_; rintro e w6 ⟨A6, c6, bl6, du6, gy6, y6, B6, rfl, hb6, H6⟩
       have HB6 := keep hb6
       clear hb6
       obtain ⟨rfl, b5, o5, m5, rfl, hlt5, rfl, hm5, v0, v1, v2, v3⟩ := one_got (H5.out.2.2.2.upY H6.out.2.2.1) H5.out.2.2.2.is
       obtain ⟨g6, rfl, hg6, u0, u1, u2, u3, u4, u5, u6, u7, u8, u9, u10, u11⟩ := H6.out.2.2.2.1.open_
       have hpp : m5.pp = 5 := congrArg Msg.pp hm5
       rw [hpp] at v2
       have KI6 := xIdle_no H6.out.1.a (H3.out.2.2.2.1)
       rw [HB2.out] at KI6
       replace KI6 := keep KI6
       have KS6 := s_sack H6.out.1 H3.out.2.2.2.1 H3.out.2.2.2.2.1 H2.out.2.sn H3.out.2.2.2.2.2 (by decide) H6.out.2.2.2.2 ⟨H6.out.2.2.2.1.bl0, Nat.zero_le _⟩ 30 (by decide) (by decide) (bl := bl6) (du := du6)
       rw [HB2.out] at KS6
       dsimp only [sackC] at KS6
       replace KS6 := keep KS6
       clear hpp hm5 v0 v1 v3)
    | (go_at_call_of 15 gx; refine KS6.out.mono ?_; rintro e w7 ⟨rfl, gx7, x7, hb7, H7⟩
       have KI7 := xIdle_yes H7.out.1.a H7.out.2.1 H7.out.2.2.1
       rw [hb7] at KI7
       replace KI7 := keep KI7
       have KJ7 := xIdle_yes H7.out.1.b H6.out.2.1.es H6.out.2.1.ow
       rw [HB6.out] at KJ7
       replace KJ7 := keep KJ7
       clear hb7)
    | (go_at_call_of 18 gy; refine KJ7.out.mono ?_; rintro e w' ⟨rfl, rfl⟩)
    | (go_at_call_of 18 gx
       first
       | (have _ := H7; refine KI7.out.mono ?_; rintro e w' ⟨rfl, rfl⟩)
       | (refine KI6.out.mono ?_; rintro e w' ⟨rfl, rfl⟩)))
  all_goals go_ret
  all_goals exact ⟨rfl, H7.out.1.be⟩
end
section
open Go.ChangeShapes Go.WideShapes Go.ChangeAt Go.RowKit Go.Deep
section
variable {H : Type} {enc : TypeId × Value → H} {P : Program} {W : World} {base : Nat} {held : Bool}
theorem slice_shape {t e : TypeId} (ht : P.underlying t = some (.slice e)) {v : Value} {x : DataW H × List MemPlace} {fuel : Nat} (h : DataW.trod enc P W base (fun _ => true) held fuel t [v] = some x) : ∃ a n c, v = .slice a n c := by
  rcases open_slice ht h with ⟨hcs, _⟩ | ⟨ad, len, cap, m, k, D, Pl, hcs, _⟩
  · injection hcs with hcs
    exact ⟨_, _, _, hcs⟩
  · injection hcs with hcs
    exact ⟨_, _, _, hcs⟩
theorem open_bytes_at {t e : TypeId} (ht : P.underlying t = some (.slice e)) (he : P.underlying e = some (.int .u8)) (hc : P.cellsOf e = 1)
    {v : Value} {x : DataW H × List MemPlace} {fuel : Nat} (h : DataW.trod enc P W base (fun _ => true) held fuel t [v] = some x) : ∃ a n c bs, v = .slice a n c ∧ BS W a n c bs := by
  obtain ⟨a, n, c, rfl⟩ := slice_shape ht h
  obtain ⟨bs, hbs, _⟩ := open_bytes ht he hc (d := x.1) (p := x.2) (⟨fuel, h⟩ : DataW.Trod enc P W base (fun _ => true) held t (.slice a n c) x.1 x.2)
  exact ⟨a, n, c, bs, rfl, hbs⟩
theorem open_pvs {t e u : TypeId} {f0 f1 : Field} (ht : P.underlying t = some (.slice e)) (he : P.underlying e = some (.struct #[f0, f1])) (h0 : P.underlying f0.type = some (.int .u16)) (h1 : P.underlying f1.type = some (.slice u))
    (hone : oneCellFields P #[f0, f1] = true) (ce : P.cellsOf e = 2) {v : Value} {x : DataW H × List MemPlace} {fuel : Nat} (h : DataW.trod enc P W base (fun _ => true) held fuel t [v] = some x) : ∃ a n c l, v = .slice a n c ∧ PR W a n c l := by
  rcases open_slice ht h with ⟨hcs, _⟩ | ⟨ad, len, cap, m, k, D, Pl, hcs, _, hl, _, hm, _, hi⟩
  · injection hcs with hcs
    exact ⟨_, _, _, [], hcs, PR.nil W⟩
  · injection hcs with hcs
    obtain rfl : m = cap := by simpa using hm
    have key : ∀ i, ∃ x : PV, i < len → W.cell? (ad.add (i * 2)) = some (.int .u16 x.1) ∧ W.cell? ((ad.add (i * 2)).add 1) = some (.slice x.2.1 x.2.2.1 x.2.2.2) := by
      intro i
      by_cases hin : i < len
      · obtain ⟨cs, hcells, htr⟩ := hi i (by omega)
        rw [ce] at hcells
        obtain ⟨_, hcl, hat⟩ := World.cells?_some hcells
        obtain ⟨xs, n', _, _, _, hxl, hfld⟩ := DataW.trod_struct he htr
        obtain ⟨o0, k0⟩ := hone_of hone 0 f0 rfl
        obtain ⟨o1, k1⟩ := hone_of hone 1 f1 rfl
        have g0 := hfld 0 f0 rfl
        have g1 := hfld 1 f1 rfl
        rw [o0, k0, List.drop_zero] at g0
        rw [o1, k1] at g1
        match cs, hcl, xs, hxl with
        | [u0, u1], _, [y0, y1], _ =>
          obtain ⟨z, hz, _, _⟩ := DataW.trod_int h0 (show DataW.trod enc P W base (fun _ => true) held n' f0.type [u0] = some y0 from g0)
          obtain ⟨a, n, c, hs⟩ := slice_shape h1 (show DataW.trod enc P W base (fun _ => true) held n' f1.type [u1] = some y1 from g1)
          simp only [List.cons.injEq, and_true] at hz
          subst hz
          subst hs
          refine ⟨(z, a, n, c), fun _ => ⟨?_, ?_⟩⟩
          · have := hat 0 (by omega)
            simpa [Addr.add] using this
          · simpa using hat 1 (by omega)
      · exact ⟨(0, none, 0, 0), fun h' => absurd h' hin⟩
    obtain ⟨g, hg⟩ := Classical.axiomOfChoice key
    have hget : ∀ i, i < len → ((List.range len).map g)[i]? = some (g i) := fun i hin => by simp [hin]
    refine ⟨_, _, _, (List.range len).map g, hcs, by simp, hl, fun hne => ?_⟩
    have hn : 0 < len := by
      rcases Nat.eq_zero_or_pos len with h0 | h0
      · subst h0; simp [flatF] at hne
      · exact h0
    obtain ⟨b, o, spot⟩ := ad
    have hc0 := (hg 0 hn).1
    have hspot : spot = none := by simpa [Addr.add] using World.cell?_spot hc0
    subst hspot
    rw [Addr.add_lit] at hc0
    refine ⟨b, o, rfl, World.block_lt_of_cell? W _ hc0, fun j v hv => ?_⟩
    have hjl : j < len * 2 := by
      rcases Nat.lt_or_ge j (len * 2) with h0 | h0
      · exact h0
      · rw [List.getElem?_eq_none (by rw [flatF_len PV.len]; simp; omega)] at hv; cases hv
    have hfg := flatF_get (f := PV.cells) PV.len _ (j / 2) _ (hget (j / 2) (by omega)) (j % 2) (by omega)
    rw [show j / 2 * 2 + j % 2 = j by omega] at hfg
    rw [hfg] at hv
    have hgg := hg (j / 2) (by omega)
    rw [Addr.add_lit, Addr.add_lit] at hgg
    rcases Nat.mod_two_eq_zero_or_one j with hm2 | hm2
    · rw [hm2] at hv
      rw [show j / 2 * 2 = j by omega] at hgg
      exact hgg.1.trans hv
    · rw [hm2] at hv
      have h2 := hgg.2
      rw [Nat.add_assoc, show j / 2 * 2 + 1 = j by omega] at h2
      exact h2.trans hv
structure ChunkTy (P : Program) (e : TypeId) : Prop where
  ok : ∃ (f0 f1 f2 f3 f4 f5 f6 f7 f8 f9 fa fb : Field) (e7 e8 e9 ea eb u : TypeId) (p0 p1 : Field),
    P.underlying e = some (.struct #[f0, f1, f2, f3, f4, f5, f6, f7, f8, f9, fa, fb]) ∧ P.cellsOf e = 12 ∧ oneCellFields P #[f0, f1, f2, f3, f4, f5, f6, f7, f8, f9, fa, fb] = true ∧
    P.underlying f0.type = some (.int .u8) ∧ P.underlying f1.type = some (.int .u8) ∧ P.underlying f2.type = some (.int .u32) ∧ P.underlying f3.type = some (.int .u32) ∧ P.underlying f4.type = some (.int .u16) ∧ P.underlying f5.type = some (.int .u16) ∧ P.underlying f6.type = some (.int .u32) ∧
    P.underlying f7.type = some (.slice e7) ∧ P.underlying f8.type = some (.slice e8) ∧ P.underlying f9.type = some (.slice e9) ∧ P.underlying fa.type = some (.slice ea) ∧ P.underlying fb.type = some (.slice eb) ∧
    P.underlying ea = some (.struct #[p0, p1]) ∧ P.underlying p0.type = some (.int .u16) ∧ P.underlying p1.type = some (.slice u) ∧ oneCellFields P #[p0, p1] = true ∧ P.cellsOf ea = 2 ∧
    P.underlying eb = some (.int .u8) ∧ P.cellsOf eb = 1
theorem chunk_of_trod {e : TypeId} (hC : ChunkTy P e) {cs : List Value} {x : DataW H × List MemPlace} {fuel : Nat} (hl : cs.length = 12) (h : DataW.trod enc P W base (fun _ => true) held fuel e cs = some x) : ∃ y : CX, cs = y.cells ∧ CV W y := by
  obtain ⟨f0, f1, f2, f3, f4, f5, f6, f7, f8, f9, fa, fb, e7, e8, e9, ea, eb, u, p0, p1, he, hce, hone, h0, h1, h2, h3, h4, h5, h6, h7, h8, h9, ha, hb, hea, hp0, hp1, honep, hcea, heb, hceb⟩ := hC.ok
  obtain ⟨xs, n', _, _, _, hxl, hfld⟩ := DataW.trod_struct he h
  match cs, hl, xs, hxl with
  | [v0, v1, v2, v3, v4, v5, v6, v7, v8, v9, va, vb], _, [y0, y1, y2, y3, y4, y5, y6, y7, y8, y9, ya, yb], _ =>
    have key : ∀ (i : Nat) (f : Field) (v : Value) (y : DataW H × List MemPlace), #[f0, f1, f2, f3, f4, f5, f6, f7, f8, f9, fa, fb][i]? = some f → ([v0, v1, v2, v3, v4, v5, v6, v7, v8, v9, va, vb].drop i).take 1 = [v] → [y0, y1, y2, y3, y4, y5, y6, y7, y8, y9, ya, yb][i]? = some y → DataW.trod enc P W base (fun _ => true) held n' f.type [v] = some y := by
      intro i f v y hf hv hy
      obtain ⟨o, k⟩ := hone_of hone i f hf
      have := hfld i f hf
      rw [o, k, hv, hy] at this
      exact this
    obtain ⟨z0, q0, _, w0⟩ := DataW.trod_int h0 (key 0 f0 v0 y0 rfl rfl rfl)
    obtain ⟨z1, q1, _, w1⟩ := DataW.trod_int h1 (key 1 f1 v1 y1 rfl rfl rfl)
    obtain ⟨z2, q2, _, w2⟩ := DataW.trod_int h2 (key 2 f2 v2 y2 rfl rfl rfl)
    obtain ⟨z3, q3, _, w3⟩ := DataW.trod_int h3 (key 3 f3 v3 y3 rfl rfl rfl)
    obtain ⟨z4, q4, _, w4⟩ := DataW.trod_int h4 (key 4 f4 v4 y4 rfl rfl rfl)
    obtain ⟨z5, q5, _, w5⟩ := DataW.trod_int h5 (key 5 f5 v5 y5 rfl rfl rfl)
    obtain ⟨z6, q6, _, w6⟩ := DataW.trod_int h6 (key 6 f6 v6 y6 rfl rfl rfl)
    obtain ⟨a7, n7, c7, q7⟩ := slice_shape h7 (key 7 f7 v7 y7 rfl rfl rfl)
    obtain ⟨a8, n8, c8, q8⟩ := slice_shape h8 (key 8 f8 v8 y8 rfl rfl rfl)
    obtain ⟨a9, n9, c9, q9⟩ := slice_shape h9 (key 9 f9 v9 y9 rfl rfl rfl)
    obtain ⟨aa, na, ca, la, qa, ra⟩ := open_pvs ha hea hp0 hp1 honep hcea (key 10 fa va ya rfl rfl rfl)
    obtain ⟨ab, nb, cb, lb, qb, rb⟩ := open_bytes_at hb heb hceb (key 11 fb vb yb rfl rfl rfl)
    simp only [List.cons.injEq, and_true] at q0 q1 q2 q3 q4 q5 q6
    have b0 := bounds_u8 w0
    have b1 := bounds_u8 w1
    have b2 := bounds_u32 w2
    have b3 := bounds_u32 w3
    have b4 := bounds_u16 w4
    have b5 := bounds_u16 w5
    have b6 := bounds_u32 w6
    subst q0 q1 q2 q3 q4 q5 q6 q7 q8 q9 qa qb
    exact ⟨⟨z0, z1, z2, z3, z4, z5, z6, (a7, n7, c7), (a8, n8, c8), (a9, n9, c9), (aa, na, ca), (ab, nb, cb), la, lb⟩, rfl, by dsimp only; omega, by dsimp only; omega, by dsimp only; omega, by dsimp only; omega, by dsimp only; omega, by dsimp only; omega, by dsimp only; omega, ra, rb⟩
theorem open_chunks {t e : TypeId} (ht : P.underlying t = some (.slice e)) (hC : ChunkTy P e) {a : Option Addr} {n c : Nat} {d : DataW H} {p : List MemPlace} (h : DataW.Trod enc P W base (fun _ => true) held t (.slice a n c) d p) : ∃ l, CS W a n c l := by
  obtain ⟨fuel, hf⟩ := h
  have hce : P.cellsOf e = 12 := by
    obtain ⟨f0, f1, f2, f3, f4, f5, f6, f7, f8, f9, fa, fb, e7, e8, e9, ea, eb, u, p0, p1, he, hce, _⟩ := hC.ok
    exact hce
  rcases open_slice ht hf with ⟨hcs, _⟩ | ⟨ad, len, cap, m, k, D, Pl, hcs, _, hl, _, hm, _, hi⟩
  · simp [Value.cells] at hcs
    obtain ⟨rfl, rfl, rfl⟩ := hcs
    exact ⟨[], CS.nil W⟩
  · simp [Value.cells] at hcs
    obtain ⟨rfl, rfl, rfl⟩ := hcs
    obtain rfl : m = c := by simpa using hm
    have key : ∀ i, ∃ x : CX, i < n → (∀ j v, x.cells[j]? = some v → W.cell? ((ad.add (i * 12)).add j) = some v) ∧ CV W x := by
      intro i
      by_cases hin : i < n
      · obtain ⟨cs, hcells, htr⟩ := hi i (by omega)
        rw [hce] at hcells
        obtain ⟨_, hcl, hat⟩ := World.cells?_some hcells
        obtain ⟨x, rfl, hx⟩ := chunk_of_trod hC (by omega) htr
        refine ⟨x, fun _ => ⟨fun j v hv => ?_, hx⟩⟩
        have hj : j < 12 := by
          rcases Nat.lt_or_ge j 12 with h0 | h0
          · exact h0
          · rw [List.getElem?_eq_none (by rw [CX.len]; exact h0)] at hv; cases hv
        have := hat j (by omega)
        rw [hv] at this
        exact this
      · exact ⟨⟨0, 0, 0, 0, 0, 0, 0, (none, 0, 0), (none, 0, 0), (none, 0, 0), (none, 0, 0), (none, 0, 0), [], []⟩, fun h' => absurd h' hin⟩
    obtain ⟨g, hg⟩ := Classical.axiomOfChoice key
    have hget : ∀ i, i < n → ((List.range n).map g)[i]? = some (g i) := fun i hin => by simp [hin]
    refine ⟨(List.range n).map g, by simp, hl, fun hne => ?_, fun x hx => ?_⟩
    · have hn : 0 < n := by
        rcases Nat.eq_zero_or_pos n with h0 | h0
        · subst h0; simp [flatF] at hne
        · exact h0
      obtain ⟨b, o, spot⟩ := ad
      have hc0 := (hg 0 hn).1 0 _ rfl
      have hspot : spot = none := by simpa [Addr.add] using World.cell?_spot hc0
      subst hspot
      rw [Addr.add_lit, Addr.add_lit] at hc0
      refine ⟨b, o, rfl, World.block_lt_of_cell? W _ hc0, fun j v hv => ?_⟩
      have hjl : j < n * 12 := by
        rcases Nat.lt_or_ge j (n * 12) with h0 | h0
        · exact h0
        · rw [List.getElem?_eq_none (by rw [flatF_len CX.len]; simp; omega)] at hv; cases hv
      have hfg := flatF_get (f := CX.cells) CX.len _ (j / 12) _ (hget (j / 12) (by omega)) (j % 12) (by omega)
      rw [show j / 12 * 12 + j % 12 = j by omega] at hfg
      rw [hfg] at hv
      have hgg := (hg (j / 12) (by omega)).1 (j % 12) v hv
      rw [Addr.add_lit, Addr.add_lit, Nat.add_assoc, show j / 12 * 12 + j % 12 = j by omega] at hgg
      exact hgg
    · obtain ⟨i, hir, rfl⟩ := List.mem_map.1 hx
      exact (hg i (by simpa using hir)).2
end
end
section
open Go.ChangeShapes Go.WideShapes Go.ChangeAt Go.RowKit Go.Deep
structure MsgTy (P : Program) (e : TypeId) : Prop where
  ok : ∃ (f0 f1 f2 f3 : Field) (eb : TypeId), P.underlying e = some (.struct #[f0, f1, f2, f3]) ∧ P.cellsOf e = 4 ∧ oneCellFields P #[f0, f1, f2, f3] = true ∧
    P.underlying f0.type = some (.int .u16) ∧ P.underlying f1.type = some .bool ∧ P.underlying f2.type = some (.int .u32) ∧ P.underlying f3.type = some (.slice eb) ∧ P.underlying eb = some (.int .u8) ∧ P.cellsOf eb = 1
section
variable {H : Type} {enc : TypeId × Value → H} {P : Program} {W : World} {base b0 : Nat} {held : Bool} {e : TypeId} {v : Value} {d : DataW H} {p : List MemPlace}
theorem open_chunk (hC : ChunkTy P e) (hval : Value.okWide P W .any b0 e v) (h : DataW.Trod enc P W base (fun _ => true) held e v d p) : ∃ x : CX, v = .agg x.cells.toArray ∧ CV W x := by
  have hC' := hC
  obtain ⟨f0, f1, f2, f3, f4, f5, f6, f7, f8, f9, fa, fb, e7, e8, e9, ea, eb, u, p0, p1, he, hce, _⟩ := hC.ok
  obtain ⟨cs, rfl, hsz⟩ := okWide_struct he hval
  rw [hce] at hsz
  obtain ⟨l⟩ := cs
  obtain ⟨fuel, hf⟩ := h
  obtain ⟨x, hx, hv⟩ := chunk_of_trod hC' (by simpa using hsz) (by simpa [Value.cells] using hf)
  subst hx
  exact ⟨x, rfl, hv⟩
theorem open_message (hC : MsgTy P e) (hval : Value.okWide P W .any b0 e v) (h : DataW.Trod enc P W base (fun _ => true) held e v d p) : ∃ x : MX, v = .agg x.cells.toArray ∧ MV W x := by
  obtain ⟨f0, f1, f2, f3, eb, he, hce, hone, h0, h1, h2, h3, heb, hceb⟩ := hC.ok
  obtain ⟨cs, rfl, hsz⟩ := okWide_struct he hval
  rw [hce] at hsz
  obtain ⟨l⟩ := cs
  obtain ⟨fuel, hf⟩ := h
  have key : ∀ l : List Value, l.length = 4 → DataW.trod enc P W base (fun _ => true) held fuel e l = some (d, p) → ∃ x : MX, l = x.cells ∧ MV W x := by
    intro l hl hf
    obtain ⟨xs, n', _, _, _, hxl, hfld⟩ := DataW.trod_struct he hf
    match l, hl, xs, hxl with
    | [v0, v1, v2, v3], _, [y0, y1, y2, y3], _ =>
      have key : ∀ (i : Nat) (f : Field) (v : Value) (y : DataW H × List MemPlace), #[f0, f1, f2, f3][i]? = some f → ([v0, v1, v2, v3].drop i).take 1 = [v] → [y0, y1, y2, y3][i]? = some y → DataW.trod enc P W base (fun _ => true) held n' f.type [v] = some y := by
        intro i f v y hf hv hy
        obtain ⟨o, k⟩ := hone_of hone i f hf
        have := hfld i f hf
        rw [o, k, hv, hy] at this
        exact this
      obtain ⟨z0, q0, _, w0⟩ := DataW.trod_int h0 (key 0 f0 v0 y0 rfl rfl rfl)
      obtain ⟨z1, q1, _⟩ := DataW.trod_bool h1 (key 1 f1 v1 y1 rfl rfl rfl)
      obtain ⟨z2, q2, _, w2⟩ := DataW.trod_int h2 (key 2 f2 v2 y2 rfl rfl rfl)
      obtain ⟨ab, nb, cb, lb, qb, rb⟩ := open_bytes_at h3 heb hceb (key 3 f3 v3 y3 rfl rfl rfl)
      simp only [List.cons.injEq, and_true] at q0 q1 q2
      have b0 := bounds_u16 w0
      have b2 := bounds_u32 w2
      subst q0 q1 q2 qb
      exact ⟨⟨z0, z1, z2, (ab, nb, cb), lb⟩, rfl, by dsimp only; omega, by dsimp only; omega, rb⟩
  obtain ⟨x, hx, hv⟩ := key l (by simpa using hsz) (by simpa [Value.cells] using hf)
  subst hx
  exact ⟨x, rfl, hv⟩
end
end
section
open Go.ChangeShapes Go.WideShapes Go.ChangeAt Go.RowKit Go.Deep
theorem msgTy : MsgTy Tryz.prog 33 :=
  ⟨_, _, _, _, 5, Tryz.underlying33, by kernel_rfl, by kernel_rfl, Tryz.underlying30, Tryz.underlying4, Tryz.underlying22, Tryz.underlying31, Tryz.underlying5, by kernel_rfl⟩
theorem chunkTy : ChunkTy Tryz.prog 41 :=
  ⟨_, _, _, _, _, _, _, _, _, _, _, _, 154, 22, 174, 183, 5, 5, _, _, Tryz.underlying41, by kernel_rfl, by kernel_rfl, Tryz.underlying5, Tryz.underlying5, Tryz.underlying22, Tryz.underlying22, Tryz.underlying30, Tryz.underlying30, Tryz.underlying22,
    Tryz.underlying36, Tryz.underlying37, Tryz.underlying38, Tryz.underlying39, Tryz.underlying31, Tryz.underlying183, Tryz.underlying30, Tryz.underlying31, by kernel_rfl, by kernel_rfl, Tryz.underlying5, by kernel_rfl⟩
end
end Go.Proofs.YtikiooofoaclmaaGreat
