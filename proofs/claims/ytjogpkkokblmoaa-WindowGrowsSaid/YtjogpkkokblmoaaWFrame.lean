/- What the frames of this seat's proofs share besides: an argument that is a state reads as its five numbers and its flag. -/
import Derived.Test.YtjogpkkokblmoaaFrame
import Derived.Test.YtjogpkkokblmoaaWi1
import Derived.ChangeSame
import Derived.ChangeArms
namespace Go.Proofs.Ytjogpkkokblmoaa
open Go.ChangeShapes Go.WideShapes Go.ChangeAt Go.RowKit
set_option linter.unusedVariables false

theorem cells_state : Try.prog.cellsOf 26 = 6 := by kernel_rfl
theorem cells_int : Try.prog.cellsOf 3 = 1 := by kernel_rfl
theorem cells_bool : Try.prog.cellsOf 4 = 1 := by kernel_rfl
theorem cells_u32 : Try.prog.cellsOf 24 = 1 := by kernel_rfl

theorem open_state {H : Type} {enc : TypeId × Value → H} {W : World} {base b0 : Nat} {sp : Nat → Bool} {held : Bool} {v : Value} {d : DataW H} {p : List MemPlace} (hval : Value.okWide Try.prog W .any b0 26 v)
    (h : DataW.Trod enc Try.prog W base sp held 26 v d p) : ∃ s : WS, v = .agg s.cells ∧ True := by
  obtain ⟨cs, rfl, hsz⟩ := okWide_struct Try.underlying26 hval
  rw [cells_state] at hsz
  obtain ⟨l⟩ := cs
  obtain ⟨fuel, hf⟩ := h
  have key : ∀ l : List Value, l.length = 6 → DataW.trod enc Try.prog W base sp held fuel 26 l = some (d, p) → ∃ s : WS, l = s.cells.toList := by
    intro l hl hf
    match l, hl with
    | [v0, v1, v2, v3, v4, v5], _ =>
      obtain ⟨xs, n, _, _, _, hlen, hfs⟩ := DataW.trod_struct Try.underlying26 hf
      have hx : xs.length = 6 := hlen
      have some_at : ∀ i, i < 6 → ∃ y, xs[i]? = some y := fun i hi => ⟨xs[i]'(by omega), List.getElem?_eq_getElem (by omega)⟩
      have g0 : DataW.trod enc Try.prog W base sp held n 3 (([v0, v1, v2, v3, v4, v5].drop 0).take (Try.prog.cellsOf 3)) = xs[0]? := hfs 0 _ rfl
      rw [cells_int] at g0
      obtain ⟨z0, hz0⟩ := some_at 0 (by decide)
      replace g0 : DataW.trod enc Try.prog W base sp held n 3 [v0] = some z0 := g0.trans hz0
      have g1 : DataW.trod enc Try.prog W base sp held n 3 (([v0, v1, v2, v3, v4, v5].drop 1).take (Try.prog.cellsOf 3)) = xs[1]? := hfs 1 _ rfl
      rw [cells_int] at g1
      obtain ⟨z1, hz1⟩ := some_at 1 (by decide)
      replace g1 : DataW.trod enc Try.prog W base sp held n 3 [v1] = some z1 := g1.trans hz1
      have g2 : DataW.trod enc Try.prog W base sp held n 3 (([v0, v1, v2, v3, v4, v5].drop 2).take (Try.prog.cellsOf 3)) = xs[2]? := hfs 2 _ rfl
      rw [cells_int] at g2
      obtain ⟨z2, hz2⟩ := some_at 2 (by decide)
      replace g2 : DataW.trod enc Try.prog W base sp held n 3 [v2] = some z2 := g2.trans hz2
      have g3 : DataW.trod enc Try.prog W base sp held n 3 (([v0, v1, v2, v3, v4, v5].drop 3).take (Try.prog.cellsOf 3)) = xs[3]? := hfs 3 _ rfl
      rw [cells_int] at g3
      obtain ⟨z3, hz3⟩ := some_at 3 (by decide)
      replace g3 : DataW.trod enc Try.prog W base sp held n 3 [v3] = some z3 := g3.trans hz3
      have g4 : DataW.trod enc Try.prog W base sp held n 4 (([v0, v1, v2, v3, v4, v5].drop 4).take (Try.prog.cellsOf 4)) = xs[4]? := hfs 4 _ rfl
      rw [cells_bool] at g4
      obtain ⟨z4, hz4⟩ := some_at 4 (by decide)
      replace g4 : DataW.trod enc Try.prog W base sp held n 4 [v4] = some z4 := g4.trans hz4
      have g5 : DataW.trod enc Try.prog W base sp held n 24 (([v0, v1, v2, v3, v4, v5].drop 5).take (Try.prog.cellsOf 24)) = xs[5]? := hfs 5 _ rfl
      rw [cells_u32] at g5
      obtain ⟨z5, hz5⟩ := some_at 5 (by decide)
      replace g5 : DataW.trod enc Try.prog W base sp held n 24 [v5] = some z5 := g5.trans hz5
      obtain ⟨cw, e0, _, w0⟩ := DataW.trod_int Try.underlying3 g0
      obtain ⟨th, e1, _, w1⟩ := DataW.trod_int Try.underlying3 g1
      obtain ⟨pa, e2, _, w2⟩ := DataW.trod_int Try.underlying3 g2
      obtain ⟨mt, e3, _, w3⟩ := DataW.trod_int Try.underlying3 g3
      obtain ⟨re, e4, _⟩ := DataW.trod_bool Try.underlying4 g4
      obtain ⟨ex, e5, _, w5⟩ := DataW.trod_int Try.underlying24 g5
      simp only [List.cons.injEq, and_true] at e0 e1 e2 e3 e4 e5
      subst e0 e1 e2 e3 e4 e5
      exact ⟨⟨cw, th, pa, mt, re, ex⟩, rfl⟩
  obtain ⟨s, rfl⟩ := key l (by simpa using hsz) (by simpa [Value.cells] using hf)
  exact ⟨s, rfl, trivial⟩
end Go.Proofs.Ytjogpkkokblmoaa
