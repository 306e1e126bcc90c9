/- What the frames of this seat's proofs share besides: an argument that is a state reads as its numbers. -/
import Derived.Test.YtbkcjpimjipnfaaFrame
import Derived.Test.YtbkcjpimjipnfaaKMath
import Derived.ChangeSame
namespace Go.Proofs.Ytbkcjpimjipnfaa
open Go.ChangeShapes Go.WideShapes Go.ChangeAt Go.RowKit
set_option linter.unusedVariables false

theorem cells_state : Try.prog.cellsOf 27 = 11 := by kernel_rfl
theorem cells_int : Try.prog.cellsOf 3 = 1 := by kernel_rfl
theorem cells_u32 : Try.prog.cellsOf 23 = 1 := by kernel_rfl
theorem cells_u16 : Try.prog.cellsOf 24 = 1 := by kernel_rfl
theorem cells_two : Try.prog.cellsOf 25 = 2 := by kernel_rfl

theorem trod_array2 {H : Type} {enc : TypeId × Value → H} {P : Program} {w : World} {base : Nat} {spare : Nat → Bool} {held : Bool} {t e : TypeId} {fuel : Nat} {c0 c1 : Value} {x : DataW H × List MemPlace} (ht : P.underlying t = some (.array 2 e)) (hce : P.cellsOf e = 1)
    (h : DataW.trod enc P w base spare held fuel t [c0, c1] = some x) :
    ∃ y0 y1 n, DataW.trod enc P w base spare held n e [c0] = some y0 ∧ DataW.trod enc P w base spare held n e [c1] = some y1 := by
  cases fuel with
  | zero => simp [DataW.trod] at h
  | succ n =>
    unfold DataW.trod at h
    rw [ht] at h
    have r2 : List.range 2 = [0, 1] := rfl
    simp [r2, hce] at h
    obtain ⟨_, h⟩ := h
    cases h0 : DataW.trod enc P w base spare held n e [c0] with
    | none => simp [h0] at h
    | some y0 =>
      cases h1 : DataW.trod enc P w base spare held n e [c1] with
      | none => simp [h0, h1] at h
      | some y1 => exact ⟨y0, y1, n, h0, h1⟩

theorem open_state {H : Type} {enc : TypeId × Value → H} {W : World} {base b0 : Nat} {sp : Nat → Bool} {held : Bool} {v : Value} {d : DataW H} {p : List MemPlace} (hval : Value.okWide Try.prog W .any b0 27 v)
    (h : DataW.Trod enc Try.prog W base sp held 27 v d p) : ∃ s : CS, v = .agg s.cells ∧ s.ok := by
  obtain ⟨cs, rfl, hsz⟩ := okWide_struct Try.underlying27 hval
  rw [cells_state] at hsz
  obtain ⟨l⟩ := cs
  obtain ⟨fuel, hf⟩ := h
  have key : ∀ l : List Value, l.length = 11 → DataW.trod enc Try.prog W base sp held fuel 27 l = some (d, p) → ∃ s : CS, l = s.cells.toList ∧ s.ok := by
    intro l hl hf
    match l, hl with
    | [v0, v1, v2, v3, v4, v5, v6, v7, v8, v9, v10], _ =>
      obtain ⟨xs, n, _, _, _, hlen, hfs⟩ := DataW.trod_struct Try.underlying27 hf
      have hx : xs.length = 10 := hlen
      have some_at : ∀ i, i < 10 → ∃ y, xs[i]? = some y := fun i hi => ⟨xs[i]'(by omega), List.getElem?_eq_getElem (by omega)⟩
      have g0 : DataW.trod enc Try.prog W base sp held n 3 (([v0, v1, v2, v3, v4, v5, v6, v7, v8, v9, v10].drop 0).take (Try.prog.cellsOf 3)) = xs[0]? := hfs 0 _ rfl
      rw [cells_int] at g0
      obtain ⟨z0, hz0⟩ := some_at 0 (by decide)
      replace g0 : DataW.trod enc Try.prog W base sp held n 3 [v0] = some z0 := g0.trans hz0
      have g1 : DataW.trod enc Try.prog W base sp held n 3 (([v0, v1, v2, v3, v4, v5, v6, v7, v8, v9, v10].drop 1).take (Try.prog.cellsOf 3)) = xs[1]? := hfs 1 _ rfl
      rw [cells_int] at g1
      obtain ⟨z1, hz1⟩ := some_at 1 (by decide)
      replace g1 : DataW.trod enc Try.prog W base sp held n 3 [v1] = some z1 := g1.trans hz1
      have g2 : DataW.trod enc Try.prog W base sp held n 23 (([v0, v1, v2, v3, v4, v5, v6, v7, v8, v9, v10].drop 2).take (Try.prog.cellsOf 23)) = xs[2]? := hfs 2 _ rfl
      rw [cells_u32] at g2
      obtain ⟨z2, hz2⟩ := some_at 2 (by decide)
      replace g2 : DataW.trod enc Try.prog W base sp held n 23 [v2] = some z2 := g2.trans hz2
      have g3 : DataW.trod enc Try.prog W base sp held n 23 (([v0, v1, v2, v3, v4, v5, v6, v7, v8, v9, v10].drop 3).take (Try.prog.cellsOf 23)) = xs[3]? := hfs 3 _ rfl
      rw [cells_u32] at g3
      obtain ⟨z3, hz3⟩ := some_at 3 (by decide)
      replace g3 : DataW.trod enc Try.prog W base sp held n 23 [v3] = some z3 := g3.trans hz3
      have g4 : DataW.trod enc Try.prog W base sp held n 23 (([v0, v1, v2, v3, v4, v5, v6, v7, v8, v9, v10].drop 4).take (Try.prog.cellsOf 23)) = xs[4]? := hfs 4 _ rfl
      rw [cells_u32] at g4
      obtain ⟨z4, hz4⟩ := some_at 4 (by decide)
      replace g4 : DataW.trod enc Try.prog W base sp held n 23 [v4] = some z4 := g4.trans hz4
      have g5 : DataW.trod enc Try.prog W base sp held n 23 (([v0, v1, v2, v3, v4, v5, v6, v7, v8, v9, v10].drop 5).take (Try.prog.cellsOf 23)) = xs[5]? := hfs 5 _ rfl
      rw [cells_u32] at g5
      obtain ⟨z5, hz5⟩ := some_at 5 (by decide)
      replace g5 : DataW.trod enc Try.prog W base sp held n 23 [v5] = some z5 := g5.trans hz5
      have g6 : DataW.trod enc Try.prog W base sp held n 23 (([v0, v1, v2, v3, v4, v5, v6, v7, v8, v9, v10].drop 6).take (Try.prog.cellsOf 23)) = xs[6]? := hfs 6 _ rfl
      rw [cells_u32] at g6
      obtain ⟨z6, hz6⟩ := some_at 6 (by decide)
      replace g6 : DataW.trod enc Try.prog W base sp held n 23 [v6] = some z6 := g6.trans hz6
      have g7 : DataW.trod enc Try.prog W base sp held n 24 (([v0, v1, v2, v3, v4, v5, v6, v7, v8, v9, v10].drop 7).take (Try.prog.cellsOf 24)) = xs[7]? := hfs 7 _ rfl
      rw [cells_u16] at g7
      obtain ⟨z7, hz7⟩ := some_at 7 (by decide)
      replace g7 : DataW.trod enc Try.prog W base sp held n 24 [v7] = some z7 := g7.trans hz7
      have g8 : DataW.trod enc Try.prog W base sp held n 24 (([v0, v1, v2, v3, v4, v5, v6, v7, v8, v9, v10].drop 8).take (Try.prog.cellsOf 24)) = xs[8]? := hfs 8 _ rfl
      rw [cells_u16] at g8
      obtain ⟨z8, hz8⟩ := some_at 8 (by decide)
      replace g8 : DataW.trod enc Try.prog W base sp held n 24 [v8] = some z8 := g8.trans hz8
      have g9 : DataW.trod enc Try.prog W base sp held n 25 (([v0, v1, v2, v3, v4, v5, v6, v7, v8, v9, v10].drop 9).take (Try.prog.cellsOf 25)) = xs[9]? := hfs 9 _ rfl
      rw [cells_two] at g9
      obtain ⟨z9, hz9⟩ := some_at 9 (by decide)
      replace g9 : DataW.trod enc Try.prog W base sp held n 25 [v9, v10] = some z9 := g9.trans hz9
      obtain ⟨y0, y1, m, g9, g10⟩ := trod_array2 Try.underlying25 cells_u32 g9
      obtain ⟨made, e0, _, w0⟩ := DataW.trod_int Try.underlying3 g0
      obtain ⟨life, e1, _, w1⟩ := DataW.trod_int Try.underlying3 g1
      obtain ⟨tag, e2, _, w2⟩ := DataW.trod_int Try.underlying23 g2
      obtain ⟨peer, e3, _, w3⟩ := DataW.trod_int Try.underlying23 g3
      obtain ⟨fst, e4, _, w4⟩ := DataW.trod_int Try.underlying23 g4
      obtain ⟨pf, e5, _, w5⟩ := DataW.trod_int Try.underlying23 g5
      obtain ⟨room, e6, _, w6⟩ := DataW.trod_int Try.underlying23 g6
      obtain ⟨out, e7, _, w7⟩ := DataW.trod_int Try.underlying24 g7
      obtain ⟨inn, e8, _, w8⟩ := DataW.trod_int Try.underlying24 g8
      obtain ⟨t0, e9, _, w9⟩ := DataW.trod_int Try.underlying23 g9
      obtain ⟨t1, e10, _, w10⟩ := DataW.trod_int Try.underlying23 g10
      simp only [List.cons.injEq, and_true] at e0 e1 e2 e3 e4 e5 e6 e7 e8 e9 e10
      subst e0 e1 e2 e3 e4 e5 e6 e7 e8 e9 e10
      have b0 := bounds_i64 w0
      have b1 := bounds_i64 w1
      have b2 := bounds_u32 w2
      have b3 := bounds_u32 w3
      have b4 := bounds_u32 w4
      have b5 := bounds_u32 w5
      have b6 := bounds_u32 w6
      have b7 := bounds_u16 w7
      have b8 := bounds_u16 w8
      have b9 := bounds_u32 w9
      have b10 := bounds_u32 w10
      refine ⟨⟨made, life, tag, peer, fst, pf, room, out, inn, t0, t1⟩, rfl, ?_⟩
      constructor <;> dsimp only <;> omega
  obtain ⟨s, rfl, hs⟩ := key l (by simpa using hsz) (by simpa [Value.cells] using hf)
  exact ⟨s, rfl, hs⟩
end Go.Proofs.Ytbkcjpimjipnfaa
