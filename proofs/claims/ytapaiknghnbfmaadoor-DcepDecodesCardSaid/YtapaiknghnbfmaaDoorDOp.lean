/- An argument that is an opening. Over every program. -/
import Derived.Test.YtapaiknghnbfmaaDoorCkF
import Derived.Test.YtapaiknghnbfmaaDoorD1
namespace Go.Proofs.YtapaiknghnbfmaaDoor
open Go.ChangeShapes Go.WideShapes Go.ChangeAt Go.RowKit Go.Deep
set_option linter.unusedVariables false

/-- The types of an opening. -/
structure OpTy (P : Program) (e : TypeId) : Prop where
  ok : ∃ (f0 f1 f2 f3 f4 : Field), P.underlying e = some (.struct #[f0, f1, f2, f3, f4]) ∧ P.cellsOf e = 5 ∧ oneCellFields P #[f0, f1, f2, f3, f4] = true ∧
    P.underlying f0.type = some (.int .u8) ∧ P.underlying f1.type = some (.int .u16) ∧ P.underlying f2.type = some (.int .u32) ∧ P.underlying f3.type = some .string ∧ P.underlying f4.type = some .string
/-- What is known of an opening that came in. -/
structure OW (o : OV) : Prop where
  k : 0 ≤ o.k ∧ o.k < 256
  p : 0 ≤ o.p ∧ o.p < 65536
  l : 0 ≤ o.l ∧ o.l < 4294967296
  la : o.la.size ≤ maxLen
  pr : o.pr.size ≤ maxLen
theorem OW.ok {o : OV} (h : OW o) (h1 : o.la.size ≤ 1000) (h2 : o.pr.size ≤ 1000) : o.Ok := ⟨h.k, h.p, h.l, by omega, by omega⟩
section
variable {H : Type} {enc : TypeId × Value → H} {P : Program} {W : World} {base b0 : Nat} {held : Bool} {e : TypeId} {v : Value} {d : DataW H} {p : List MemPlace}
theorem opening_of_trod (hC : OpTy P e) {fuel : Nat} {l : List Value} (hl : l.length = 5) (hf : DataW.trod enc P W base (fun _ => true) held fuel e l = some (d, p)) : ∃ x : OV, l = x.cells ∧ OW x := by
  obtain ⟨f0, f1, f2, f3, f4, he, hce, hone, h0, h1, h2, h3, h4⟩ := hC.ok
  obtain ⟨xs, n', _, _, _, hxl, hfld⟩ := DataW.trod_struct he hf
  match l, hl, xs, hxl with
  | [v0, v1, v2, v3, v4], _, [y0, y1, y2, y3, y4], _ =>
    have key : ∀ (i : Nat) (f : Field) (v : Value) (y : DataW H × List MemPlace), #[f0, f1, f2, f3, f4][i]? = some f → ([v0, v1, v2, v3, v4].drop i).take 1 = [v] → [y0, y1, y2, y3, y4][i]? = some y → DataW.trod enc P W base (fun _ => true) held n' f.type [v] = some y := by
      intro i f v y hf hv hy
      obtain ⟨o, k⟩ := hone_of hone i f hf
      have := hfld i f hf
      rw [o, k, hv, hy] at this
      exact this
    obtain ⟨z0, q0, _, w0⟩ := DataW.trod_int h0 (key 0 f0 v0 y0 rfl rfl rfl)
    obtain ⟨z1, q1, _, w1⟩ := DataW.trod_int h1 (key 1 f1 v1 y1 rfl rfl rfl)
    obtain ⟨z2, q2, _, w2⟩ := DataW.trod_int h2 (key 2 f2 v2 y2 rfl rfl rfl)
    obtain ⟨s3, q3, _, w3⟩ := DataW.trod_string h3 (key 3 f3 v3 y3 rfl rfl rfl)
    obtain ⟨s4, q4, _, w4⟩ := DataW.trod_string h4 (key 4 f4 v4 y4 rfl rfl rfl)
    simp only [List.cons.injEq, and_true] at q0 q1 q2 q3 q4
    have b0 := bounds_u8 w0
    have b1 := bounds_u16 w1
    have b2 := bounds_u32 w2
    subst q0 q1 q2 q3 q4
    exact ⟨⟨z0, z1, z2, s3, s4⟩, rfl, by dsimp only; omega, by dsimp only; omega, by dsimp only; omega, w3, w4⟩
theorem open_opening (hC : OpTy P e) (hval : Value.okWide P W .any b0 e v) (h : DataW.Trod enc P W base (fun _ => true) held e v d p) : ∃ x : OV, v = .agg x.cells.toArray ∧ OW x := by
  have hC' := hC
  obtain ⟨f0, f1, f2, f3, f4, he, hce, _⟩ := hC.ok
  obtain ⟨cs, rfl, hsz⟩ := okWide_struct he hval
  rw [hce] at hsz
  obtain ⟨l⟩ := cs
  obtain ⟨fuel, hf⟩ := h
  obtain ⟨x, hx, hv⟩ := opening_of_trod hC' (by simpa using hsz) (by simpa [Value.cells] using hf)
  subst hx
  exact ⟨x, rfl, hv⟩
end
theorem opTy_ : OpTy Tryd.prog 25 := ⟨_, _, _, _, _, Tryd.underlying25, by kernel_rfl, by kernel_rfl, Tryd.underlying5, Tryd.underlying22, Tryd.underlying23, Tryd.underlying9, Tryd.underlying9⟩
end Go.Proofs.YtapaiknghnbfmaaDoor
