/- An argument that is a chunk or a message. Over every program. -/
import Derived.Test.YtapaiknghnbfmaaDoorCkO
import Derived.ChangeSame
import Derived.ChangeArms
namespace Go.Proofs.YtapaiknghnbfmaaDoor
open Go.ChangeShapes Go.WideShapes Go.ChangeAt Go.RowKit Go.Deep
set_option linter.unusedVariables false

/-- The types of a message. -/
structure MsgTy (P : Program) (e : TypeId) : Prop where
  ok : ∃ (f0 f1 f2 f3 : Field) (eb : TypeId), P.underlying e = some (.struct #[f0, f1, f2, f3]) ∧ P.cellsOf e = 4 ∧ oneCellFields P #[f0, f1, f2, f3] = true ∧
    P.underlying f0.type = some (.int .u16) ∧ P.underlying f1.type = some .bool ∧ P.underlying f2.type = some (.int .u32) ∧ P.underlying f3.type = some (.slice eb) ∧ P.underlying eb = some (.int .u8) ∧ P.cellsOf eb = 1

section
variable {H : Type} {enc : TypeId × Value → H} {P : Program} {W : World} {base b0 : Nat} {held : Bool} {e : TypeId} {v : Value} {d : DataW H} {p : List MemPlace}
theorem open_chunk (hC : ChunkTy P e) (hval : Value.okWide P W .any b0 e v) (h : DataW.Trod enc P W base (fun _ => true) held e v d p) : ∃ x : CX, v = .agg x.cells.toArray ∧ CV W x := by
  have hC' := hC
  obtain ⟨f0, f1, f2, f3, f4, f5, f6, f7, f8, f9, fa, fb, e7, e8, e9, ea, eb, u, p0, p1, he, hce, _⟩ := hC.ok
  obtain ⟨cs, rfl, hsz⟩ := okWide_struct he hval
  rw [hce] at hsz
  obtain ⟨l⟩ := cs
  obtain ⟨fuel, hf⟩ := h
  obtain ⟨x, hx, hv⟩ := chunk_of_trod hC' (by simpa using hsz) (by simpa [Value.cells] using hf)
  subst hx
  exact ⟨x, rfl, hv⟩
theorem open_message (hC : MsgTy P e) (hval : Value.okWide P W .any b0 e v) (h : DataW.Trod enc P W base (fun _ => true) held e v d p) : ∃ x : MX, v = .agg x.cells.toArray ∧ MV W x := by
  obtain ⟨f0, f1, f2, f3, eb, he, hce, hone, h0, h1, h2, h3, heb, hceb⟩ := hC.ok
  obtain ⟨cs, rfl, hsz⟩ := okWide_struct he hval
  rw [hce] at hsz
  obtain ⟨l⟩ := cs
  obtain ⟨fuel, hf⟩ := h
  have key : ∀ l : List Value, l.length = 4 → DataW.trod enc P W base (fun _ => true) held fuel e l = some (d, p) → ∃ x : MX, l = x.cells ∧ MV W x := by
    intro l hl hf
    obtain ⟨xs, n', _, _, _, hxl, hfld⟩ := DataW.trod_struct he hf
    match l, hl, xs, hxl with
    | [v0, v1, v2, v3], _, [y0, y1, y2, y3], _ =>
      have key : ∀ (i : Nat) (f : Field) (v : Value) (y : DataW H × List MemPlace), #[f0, f1, f2, f3][i]? = some f → ([v0, v1, v2, v3].drop i).take 1 = [v] → [y0, y1, y2, y3][i]? = some y → DataW.trod enc P W base (fun _ => true) held n' f.type [v] = some y := by
        intro i f v y hf hv hy
        obtain ⟨o, k⟩ := hone_of hone i f hf
        have := hfld i f hf
        rw [o, k, hv, hy] at this
        exact this
      obtain ⟨z0, q0, _, w0⟩ := DataW.trod_int h0 (key 0 f0 v0 y0 rfl rfl rfl)
      obtain ⟨z1, q1, _⟩ := DataW.trod_bool h1 (key 1 f1 v1 y1 rfl rfl rfl)
      obtain ⟨z2, q2, _, w2⟩ := DataW.trod_int h2 (key 2 f2 v2 y2 rfl rfl rfl)
      obtain ⟨ab, nb, cb, lb, qb, rb⟩ := open_bytes_at h3 heb hceb (key 3 f3 v3 y3 rfl rfl rfl)
      simp only [List.cons.injEq, and_true] at q0 q1 q2
      have b0 := bounds_u16 w0
      have b2 := bounds_u32 w2
      subst q0 q1 q2 qb
      exact ⟨⟨z0, z1, z2, (ab, nb, cb), lb⟩, rfl, by dsimp only; omega, by dsimp only; omega, rb⟩
  obtain ⟨x, hx, hv⟩ := key l (by simpa using hsz) (by simpa [Value.cells] using hf)
  subst hx
  exact ⟨x, rfl, hv⟩
end
end Go.Proofs.YtapaiknghnbfmaaDoor
