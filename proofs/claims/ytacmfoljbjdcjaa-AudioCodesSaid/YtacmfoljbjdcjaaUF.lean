/- An argument that is a packet of sound. -/
import Derived.Test.YtacmfoljbjdcjaaU1
import Derived.Test.YtacmfoljbjdcjaaCkO
import Derived.ChangeSame
import Derived.ChangeArms
namespace Go.Proofs.Ytacmfoljbjdcjaa
open Go.ChangeShapes Go.WideShapes Go.ChangeAt Go.RowKit Go.Deep
set_option linter.unusedVariables false

/-- A packet that came in. -/
def PA (W : World) (y : Pv) : Prop := BS W y.da.1 y.da.2.1 y.da.2.2 y.bs ∧ (0 ≤ y.kd ∧ y.kd < 256) ∧ (0 ≤ y.sq ∧ y.sq < 65536) ∧ (0 ≤ y.st ∧ y.st < 4294967296) ∧ (0 ≤ y.so ∧ y.so < 4294967296)
structure PktTy (P : Program) (e : TypeId) : Prop where
  ok : ∃ (f0 f1 f2 f3 f4 f5 : Field) (eb : TypeId), P.underlying e = some (.struct #[f0, f1, f2, f3, f4, f5]) ∧ P.cellsOf e = 6 ∧ oneCellFields P #[f0, f1, f2, f3, f4, f5] = true ∧
    P.underlying f0.type = some .bool ∧ P.underlying f1.type = some (.int .u8) ∧ P.underlying f2.type = some (.int .u16) ∧ P.underlying f3.type = some (.int .u32) ∧ P.underlying f4.type = some (.int .u32) ∧ P.underlying f5.type = some (.slice eb) ∧ P.underlying eb = some (.int .u8) ∧ P.cellsOf eb = 1
theorem pktTy : PktTy Try.prog 26 :=
  ⟨_, _, _, _, _, _, 5, Try.underlying26, by kernel_rfl, by kernel_rfl, Try.underlying4, Try.underlying5, Try.underlying22, Try.underlying23, Try.underlying23, Try.underlying24, Try.underlying5, by kernel_rfl⟩
section
variable {H : Type} {enc : TypeId × Value → H} {P : Program} {W : World} {base b0 : Nat} {held : Bool} {e : TypeId} {v : Value} {d : DataW H} {p : List MemPlace}
theorem open_packet (hC : PktTy P e) (hval : Value.okWide P W .any b0 e v) (h : DataW.Trod enc P W base (fun _ => true) held e v d p) : ∃ x : Pv, v = .agg x.cells.toArray ∧ PA W x := by
  obtain ⟨f0, f1, f2, f3, f4, f5, eb, he, hce, hone, h0, h1, h2, h3, h4, h5, heb, hceb⟩ := hC.ok
  obtain ⟨cs, rfl, hsz⟩ := okWide_struct he hval
  rw [hce] at hsz
  obtain ⟨l⟩ := cs
  obtain ⟨fuel, hf⟩ := h
  have key : ∀ l : List Value, l.length = 6 → DataW.trod enc P W base (fun _ => true) held fuel e l = some (d, p) → ∃ x : Pv, l = x.cells ∧ PA W x := by
    intro l hl hf
    obtain ⟨xs, n', _, _, _, hxl, hfld⟩ := DataW.trod_struct he hf
    match l, hl, xs, hxl with
    | [v0, v1, v2, v3, v4, v5], _, [y0, y1, y2, y3, y4, y5], _ =>
      have key : ∀ (i : Nat) (f : Field) (v : Value) (y : DataW H × List MemPlace), #[f0, f1, f2, f3, f4, f5][i]? = some f → ([v0, v1, v2, v3, v4, v5].drop i).take 1 = [v] → [y0, y1, y2, y3, y4, y5][i]? = some y → DataW.trod enc P W base (fun _ => true) held n' f.type [v] = some y := by
        intro i f v y hf hv hy
        obtain ⟨o, k⟩ := hone_of hone i f hf
        have := hfld i f hf
        rw [o, k, hv, hy] at this
        exact this
      obtain ⟨z0, q0, _⟩ := DataW.trod_bool h0 (key 0 f0 v0 y0 rfl rfl rfl)
      obtain ⟨z1, q1, _, w1⟩ := DataW.trod_int h1 (key 1 f1 v1 y1 rfl rfl rfl)
      obtain ⟨z2, q2, _, w2⟩ := DataW.trod_int h2 (key 2 f2 v2 y2 rfl rfl rfl)
      obtain ⟨z3, q3, _, w3⟩ := DataW.trod_int h3 (key 3 f3 v3 y3 rfl rfl rfl)
      obtain ⟨z4, q4, _, w4⟩ := DataW.trod_int h4 (key 4 f4 v4 y4 rfl rfl rfl)
      obtain ⟨ab, nb, cb, lb, qb, rb⟩ := open_bytes_at h5 heb hceb (key 5 f5 v5 y5 rfl rfl rfl)
      simp only [List.cons.injEq, and_true] at q0 q1 q2 q3 q4
      have b1 := bounds_u8 w1
      have b2 := bounds_u16 w2
      have b3 := bounds_u32 w3
      have b4 := bounds_u32 w4
      subst q0 q1 q2 q3 q4 qb
      exact ⟨⟨z0, z1, z2, z3, z4, (ab, nb, cb), lb⟩, rfl, rb, by dsimp only; omega, by dsimp only; omega, by dsimp only; omega, by dsimp only; omega⟩
  obtain ⟨x, hx, hv⟩ := key l (by simpa using hsz) (by simpa [Value.cells] using hf)
  subst hx
  exact ⟨x, rfl, hv⟩
end
end Go.Proofs.Ytacmfoljbjdcjaa
