/- The document's example holds: awake answers true. -/
import Derived.Test.YtbfmklbffmodjaaSp8
import Derived.Test.YtbfmklbffmodjaaSp7
namespace Go.Proofs.Ytbfmklbffmodjaa
open Go.RowKit
set_option linter.unusedVariables false

abbrev five : Msg := ⟨0, false, 0, [1, 2, 3, 4, 5]⟩
theorem five_split : splitL five 9 0 2 = [⟨0, 2, 9, 0, 0, 0, 0, [1, 2]⟩, ⟨0, 0, 10, 0, 0, 0, 0, [3, 4]⟩, ⟨0, 1, 11, 0, 0, 0, 0, [5]⟩] := by
  simp [splitL, cnt, List.range, List.range.loop, chAt, flg, ssnOf, piece]
theorem five_chunks {W : World} {A : Option Addr} {c : Nat} {l : List CX} (h : CS W A 3 c l) (hm : l.map CX.ch = splitL five 9 0 2) :
    ∃ b o x0 x1 x2, A = some ⟨b, o, none⟩ ∧ b < W.heap.size ∧ At12 W b o x0 ∧ At12 W b (o + 12) x1 ∧ At12 W b (o + 24) x2 ∧ x0.fl = 2 ∧ x1.fl = 0 ∧ x2.fl = 1 ∧ x2.a = 11 ∧ x2.da.2.1 = 1 ∧ fol x0.ch x1.ch = true ∧ CB x0 ∧ CB x1 := by
  rw [five_split] at hm
  obtain ⟨b, o, x0, rfl, hb, h0, e0, v0⟩ := h.at_ (j := 0) (by decide)
  obtain ⟨b', o', x1, hA, _, h1, e1, v1⟩ := h.at_ (j := 1) (by decide)
  injection hA with hA
  injection hA with q1 q2
  subst q1 q2
  obtain ⟨b', o', x2, hA, _, h2, e2, v2⟩ := h.at_ (j := 2) (by decide)
  injection hA with hA
  injection hA with q1 q2
  subst q1 q2
  have c0 : x0.ch = ⟨0, 2, 9, 0, 0, 0, 0, [1, 2]⟩ := by
    have := congrArg (fun z => z[0]?) hm
    simpa [e0] using this
  have c1 : x1.ch = ⟨0, 0, 10, 0, 0, 0, 0, [3, 4]⟩ := by
    have := congrArg (fun z => z[1]?) hm
    simpa [e1] using this
  have c2 : x2.ch = ⟨0, 1, 11, 0, 0, 0, 0, [5]⟩ := by
    have := congrArg (fun z => z[2]?) hm
    simpa [e2] using this
  refine ⟨b, o, x0, x1, x2, rfl, hb, by simpa using h0, by simpa using h1, by simpa using h2, congrArg Ch.fl c0, congrArg Ch.fl c1, congrArg Ch.fl c2, congrArg Ch.a c2, ?_, by rw [c0, c1]; decide, v0.cb, v1.cb⟩
  rw [v2.bs.len]
  exact congrArg (fun z => z.da.length) c2
theorem split_small {l : List CX} {M : Msg} {tsn ssn : Int} {k : Nat} (h : l.map CX.ch = splitL M tsn ssn k) (hk : k ≤ 1172) : ∀ x ∈ l, x.bs.length ≤ 20000 := fun x hx => by
  have h1 : x.ch ∈ splitL M tsn ssn k := by rw [← h]; exact List.mem_map.2 ⟨x, hx, rfl⟩
  obtain ⟨i, _, h2⟩ := List.mem_map.1 h1
  have h3 : x.bs = piece k M.da i := (congrArg Ch.da h2).symm
  rw [h3]
  unfold piece
  rw [List.length_take]
  omega
set_option maxHeartbeats 4000000 in
theorem awake_any (w : World) : Calls Try.prog 7 #[] w fun e w' => e = .returned (.bool true) ∧ Below w.heap.size w w' := by
  have LB := keep (BS.laid w 5 [1, 2, 3, 4, 5] (by decide))
  have L1 := keep (below_lay w (.cells ([1, 2, 3, 4, 5].map (Value.int .u8)).toArray 5))
  have e5 : ([1, 2, 3, 4, 5] : List Int).map b8 = ([1, 2, 3, 4, 5] : List UInt8) := by decide +kernel
  have LB5 : BS (w.alloc (.cells #[.int .u8 1, .int .u8 2, .int .u8 3, .int .u8 4, .int .u8 5] 5)) (some ⟨w.heap.size, 0, none⟩) 5 5 [1, 2, 3, 4, 5] := by
    have := LB.out
    rw [e5] at this
    exact this
  have KS : Hid (Calls Try.prog 8 #[.agg #[.int .u16 0, .bool false, .int .u32 0, .slice (some ⟨w.heap.size, 0, none⟩) 5 5], .int .u32 9, .int .u16 0, .int .i64 2] (w.alloc (.cells #[.int .u8 1, .int .u8 2, .int .u8 3, .int .u8 4, .int .u8 5] 5)) (SplitP (w.alloc (.cells #[.int .u8 1, .int .u8 2, .int .u8 3, .int .u8 4, .int .u8 5] 5)) five 9 0 2)) :=
    keep (Split_ok ⟨0, false, 0, (some ⟨w.heap.size, 0, none⟩, 5, 5), [1, 2, 3, 4, 5]⟩ 9 0 2 _ ⟨(show (0 : Int) ≤ 0 ∧ (0 : Int) < 65536 by decide), (show (0 : Int) ≤ 0 ∧ (0 : Int) < 4294967296 by decide), LB5⟩ (by decide) (by decide) (by decide) (by decide) (show 0 < 5 by decide) (show 5 ≤ 2000 by decide))
  clear LB LB5 e5
  go_enter Try.func7, Try.ntmps7
  go_wp2_with (first
    | (go_at_call 8; refine KS.out.mono ?_
       rintro e w1 ⟨A, c, l, he, hcs, hp, hl, hb1⟩
       obtain rfl : e = .returned (.tuple #[.slice A 3 c, .int .i64 0]) := he
       have hcs' : CS w1 A 3 c l := hcs
       have hl' : l.map CX.ch = splitL five 9 0 2 := hl
       have KW := Whole_any A 3 c l w1 hcs' (by decide) (split_small hl' (by decide))
       have hw : wholeO (l.map CX.ch) = some five := by
         rw [hl']
         unfold wholeO
         obtain ⟨h1, h2⟩ := whole_split (m := five) (tsn := 9) (ssn := 0) (k := 2) (by decide) (by decide)
         rw [if_pos h1, h2]
       rw [hw] at KW
       replace KW := keep KW
       have HC := keep (And.intro hcs' hl')
       have B1 := keep (up L1.out hb1)
       clear hcs hcs' hp hl hl' hb1 hw)
    | (go_at_call 13; refine KW.out.mono ?_
       rintro e w2 ⟨⟨xs, xu, xp, ⟨x1, x2, x3⟩, xbs⟩, rfl, hv, hm, hb2⟩
       obtain ⟨b, o, x0, x1', x2', rfl, hblt, A0, A1, A2, f0, f1, f2, f3, f4, f5, f6, f7⟩ := five_chunks (HC.out.1.step hb2) HC.out.2
       obtain rfl : x2 = 5 := by
         have h1 := hv.bs.len
         have h2 := congrArg List.length (show xbs = [1, 2, 3, 4, 5] from congrArg Msg.da hm)
         dsimp only at h1
         rw [h1, h2]
         rfl
       dsimp only [MX.cells]
       have B2 := keep (up B1.out hb2)
       clear hv hm hb2 KW HC))
  have M2 := keep (show ((w2.alloc (.cells #[Value.int .u16 xs, .bool xu, .int .u32 xp, .slice x1 5 x3] 26))).cell? ⟨w2.heap.size, 3, none⟩ = some (.slice x1 5 x3) from by rw [cell_of_row _ _ _ _ _ _ (heap_alloc_new w2 _)]; rfl)
  have S2 := below_lay w2 (.cells #[Value.int .u16 xs, .bool xu, .int .u32 xp, .slice x1 5 x3] 26)
  have B3 := keep (up B2.out S2)
  have hblt2 := Nat.lt_of_lt_of_le hblt S2.size
  replace A0 := A0.step S2 hblt
  replace A1 := A1.step S2 hblt
  replace A2 := A2.step S2 hblt
  have KF := fun w => Follows_any x0 x1' f6 f7 w
  clear S2
  generalize w2.alloc _ = W at M2 B3 hblt2 A0 A1 A2 ⊢
  obtain ⟨gk, gf, ga, gb, go, gs, gq, ⟨g1, g2, g3⟩, ⟨g4, g5, g6⟩, ⟨g7, g8, g9⟩, ⟨g10, g11, g12⟩, ⟨g13, g14, g15⟩, gps, gbs⟩ := x0
  obtain ⟨vk, vf, va, vb, vo, vs, vq, ⟨v1, v2, v3⟩, ⟨v4, v5, v6⟩, ⟨v7, v8, v9⟩, ⟨v10, v11, v12⟩, ⟨v13, v14, v15⟩, vps, vbs⟩ := x1'
  obtain ⟨yk, yf, ya, yb, yo, ys, yq, ⟨y1, y2, y3⟩, ⟨y4, y5, y6⟩, ⟨y7, y8, y9⟩, ⟨y10, y11, y12⟩, ⟨y13, y14, y15⟩, yps, ybs⟩ := x2'
  dsimp only at f0 f1 f2 f3 f4
  subst f0 f1 f2 f3 f4
  rw [f5] at KF
  dsimp only [At12] at A0 A1 A2
  dsimp only [CX.cells] at KF
  obtain ⟨c0, c1, c2, c3, c4, c5, c6, c7, c8, c9, c10, c11⟩ := A0
  obtain ⟨d0, d1, d2, d3, d4, d5, d6, d7, d8, d9, d10, d11⟩ := A1
  obtain ⟨e0, e1, e2, e3, e4, e5, e6, e7, e8, e9, e10, e11⟩ := A2
  have m3 := M2.out
  replace KF := keep KF
  clear e0 e3 e4 e5 e6 e7 e8 e9 e10 f5 f6 f7 hblt2 hblt
  go_region_held3 (fun w' => w'.cell? ⟨b, o, none⟩ = some (.int .u8 gk) ∧ w'.cell? ⟨b, o + 1, none⟩ = some (.int .u8 2) ∧ w'.cell? ⟨b, o + 2, none⟩ = some (.int .u32 ga) ∧ w'.cell? ⟨b, o + 3, none⟩ = some (.int .u32 gb) ∧ w'.cell? ⟨b, o + 4, none⟩ = some (.int .u16 go) ∧ w'.cell? ⟨b, o + 5, none⟩ = some (.int .u16 gs) ∧ w'.cell? ⟨b, o + 6, none⟩ = some (.int .u32 gq) ∧ w'.cell? ⟨b, o + 7, none⟩ = some (.slice g1 g2 g3) ∧ w'.cell? ⟨b, o + 8, none⟩ = some (.slice g4 g5 g6) ∧ w'.cell? ⟨b, o + 9, none⟩ = some (.slice g7 g8 g9) ∧ w'.cell? ⟨b, o + 10, none⟩ = some (.slice g10 g11 g12) ∧ w'.cell? ⟨b, o + 11, none⟩ = some (.slice g13 g14 g15) ∧ w'.cell? ⟨b, o + 12, none⟩ = some (.int .u8 vk) ∧ w'.cell? ⟨b, o + 12 + 1, none⟩ = some (.int .u8 0) ∧ w'.cell? ⟨b, o + 12 + 2, none⟩ = some (.int .u32 va) ∧ w'.cell? ⟨b, o + 12 + 3, none⟩ = some (.int .u32 vb) ∧ w'.cell? ⟨b, o + 12 + 4, none⟩ = some (.int .u16 vo) ∧ w'.cell? ⟨b, o + 12 + 5, none⟩ = some (.int .u16 vs) ∧ w'.cell? ⟨b, o + 12 + 6, none⟩ = some (.int .u32 vq) ∧ w'.cell? ⟨b, o + 12 + 7, none⟩ = some (.slice v1 v2 v3) ∧ w'.cell? ⟨b, o + 12 + 8, none⟩ = some (.slice v4 v5 v6) ∧ w'.cell? ⟨b, o + 12 + 9, none⟩ = some (.slice v7 v8 v9) ∧ w'.cell? ⟨b, o + 12 + 10, none⟩ = some (.slice v10 v11 v12) ∧ w'.cell? ⟨b, o + 12 + 11, none⟩ = some (.slice v13 v14 v15) ∧ w'.cell? ⟨b, o + 24 + 1, none⟩ = some (.int .u8 1) ∧ w'.cell? ⟨b, o + 24 + 2, none⟩ = some (.int .u32 11) ∧ w'.cell? ⟨b, o + 24 + 11, none⟩ = some (.slice y13 1 y15) ∧ w'.cell? ⟨w2.heap.size, 3, none⟩ = some (.slice x1 5 x3))
    (first | exact ⟨c0, c1, c2, c3, c4, c5, c6, c7, c8, c9, c10, c11, d0, d1, d2, d3, d4, d5, d6, d7, d8, d9, d10, d11, e1, e2, e11, m3⟩ | exact q5)
    (first
    | (go_at_call 16; refine (KF.out _).mono ?_; rintro e w5 ⟨rfl, hb5⟩
       have hb5' := (Below.refl W.heap.size W).drew.trans hb5
       have s : ∀ (g j : Nat) (v : Value), W.cell? ⟨g, j, none⟩ = some v → w5.cell? ⟨g, j, none⟩ = some v := fun g j v h => (hb5'.cell (p := ⟨g, j, none⟩) (World.block_lt_of_cell? W _ h)).trans h
       have q5 := And.intro (s _ _ _ c0) (And.intro (s _ _ _ c1) ( And.intro (s _ _ _ c2) ( And.intro (s _ _ _ c3) ( And.intro (s _ _ _ c4) ( And.intro (s _ _ _ c5) ( And.intro (s _ _ _ c6) ( And.intro (s _ _ _ c7) ( And.intro (s _ _ _ c8) ( And.intro (s _ _ _ c9) ( And.intro (s _ _ _ c10) ( And.intro (s _ _ _ c11) ( And.intro (s _ _ _ d0) ( And.intro (s _ _ _ d1) ( And.intro (s _ _ _ d2) ( And.intro (s _ _ _ d3) ( And.intro (s _ _ _ d4) ( And.intro (s _ _ _ d5) ( And.intro (s _ _ _ d6) ( And.intro (s _ _ _ d7) ( And.intro (s _ _ _ d8) ( And.intro (s _ _ _ d9) ( And.intro (s _ _ _ d10) ( And.intro (s _ _ _ d11) ( And.intro (s _ _ _ e1) ( And.intro (s _ _ _ e2) ( And.intro (s _ _ _ e11) ( s _ _ _ m3)))))))))))))))))))))))))))
       have B5 := keep (up B3.out hb5')
       clear s hb5 hb5'))
  go_wp2_with fail
  go_ret
  exact ⟨rfl, B5.out⟩
end Go.Proofs.Ytbfmklbffmodjaa
