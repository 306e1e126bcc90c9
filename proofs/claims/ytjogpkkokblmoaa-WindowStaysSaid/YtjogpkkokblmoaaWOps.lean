/- An argument that is a slice of steps: two numbers, a flag and a number of 32 bits, read cell by cell. -/
import Derived.Test.YtjogpkkokblmoaaFrame
import Derived.Deep.Slices
import Derived.Deep.Fields
namespace Go.Proofs.Ytjogpkkokblmoaa
open Go.ChangeShapes Go.WideShapes Go.ChangeAt Go.RowKit Go.Deep
set_option linter.unusedVariables false

/-- The slice at A has m steps. -/
def Steps (w : World) (A : Option Addr) (m : Nat) : Prop :=
  0 < m → ∃ b o, A = some ⟨b, o, none⟩ ∧ b < w.heap.size ∧ ∀ i, i < m → ∃ (x y : Int) (u : Bool) (z : Int),
    w.cell? ⟨b, o + i * 4, none⟩ = some (.int .i64 x) ∧ w.cell? ⟨b, o + i * 4 + 1, none⟩ = some (.int .i64 y) ∧ w.cell? ⟨b, o + i * 4 + 2, none⟩ = some (.bool u) ∧ w.cell? ⟨b, o + i * 4 + 3, none⟩ = some (.int .u32 z)

theorem open_steps {H : Type} {enc : TypeId × Value → H} {P : Program} {W : World} {base : Nat} {held : Bool} {t e : TypeId} {f0 f1 f2 f3 : Field} (ht : P.underlying t = some (.slice e)) (he : P.underlying e = some (.struct #[f0, f1, f2, f3])) (h0 : P.underlying f0.type = some (.int .i64)) (h1 : P.underlying f1.type = some (.int .i64)) (h2 : P.underlying f2.type = some .bool) (h3 : P.underlying f3.type = some (.int .u32))
    (hone : oneCellFields P #[f0, f1, f2, f3] = true) (hC : P.cellsOf e = 4) {a : Option Addr} {n c : Nat} {d : DataW H} {p : List MemPlace} (h : DataW.Trod enc P W base (fun _ => true) held t (.slice a n c) d p) : ∃ _k : Unit, Steps W a n := by
  obtain ⟨fuel, hf⟩ := h
  refine ⟨(), ?_⟩
  rcases open_slice ht hf with ⟨hcs, _⟩ | ⟨ad, len, cap, m, k, D, Pl, hcs, _, hl, _, hm, _, hi⟩
  · simp [Value.cells] at hcs
    obtain ⟨rfl, rfl, rfl⟩ := hcs
    exact fun h => absurd h (by omega)
  · simp [Value.cells] at hcs
    obtain ⟨rfl, rfl, rfl⟩ := hcs
    obtain rfl : m = c := by simpa using hm
    have key : ∀ i, i < n → ∃ (x y : Int) (u : Bool) (z : Int), W.cell? (ad.add (i * 4)) = some (.int .i64 x) ∧ W.cell? ((ad.add (i * 4)).add 1) = some (.int .i64 y) ∧ W.cell? ((ad.add (i * 4)).add 2) = some (.bool u) ∧ W.cell? ((ad.add (i * 4)).add 3) = some (.int .u32 z) := by
      intro i hin
      obtain ⟨cs, hcells, htr⟩ := hi i (by omega)
      rw [hC] at hcells
      obtain ⟨_, hcl, hat⟩ := World.cells?_some hcells
      obtain ⟨xs, n', _, _, _, hxl, hfld⟩ := DataW.trod_struct he htr
      obtain ⟨o0, k0⟩ := hone_of hone 0 f0 rfl
      obtain ⟨o1, k1⟩ := hone_of hone 1 f1 rfl
      obtain ⟨o2, k2⟩ := hone_of hone 2 f2 rfl
      obtain ⟨o3, k3⟩ := hone_of hone 3 f3 rfl
      have g0 := hfld 0 f0 rfl
      have g1 := hfld 1 f1 rfl
      have g2 := hfld 2 f2 rfl
      have g3 := hfld 3 f3 rfl
      rw [o0, k0, List.drop_zero] at g0
      rw [o1, k1] at g1
      rw [o2, k2] at g2
      rw [o3, k3] at g3
      match cs, hcl, xs, hxl with
      | [v0, v1, v2, v3], _, [y0, y1, y2, y3], _ =>
        obtain ⟨x, hx, _, _⟩ := DataW.trod_int h0 (show DataW.trod enc P W base (fun _ => true) held n' f0.type [v0] = some y0 from g0)
        obtain ⟨y, hy, _, _⟩ := DataW.trod_int h1 (show DataW.trod enc P W base (fun _ => true) held n' f1.type [v1] = some y1 from g1)
        obtain ⟨u, hu, _⟩ := DataW.trod_bool h2 (show DataW.trod enc P W base (fun _ => true) held n' f2.type [v2] = some y2 from g2)
        obtain ⟨z, hz, _, _⟩ := DataW.trod_int h3 (show DataW.trod enc P W base (fun _ => true) held n' f3.type [v3] = some y3 from g3)
        simp only [List.cons.injEq, and_true] at hx hy hu hz
        subst hx
        subst hy
        subst hu
        subst hz
        refine ⟨x, y, u, z, ?_, ?_, ?_, ?_⟩
        · have := hat 0 (by omega)
          simpa [Addr.add] using this
        · simpa using hat 1 (by omega)
        · simpa using hat 2 (by omega)
        · simpa using hat 3 (by omega)
    intro hn
    obtain ⟨b, o, spot⟩ := ad
    obtain ⟨x, _, _, _, hc0, _⟩ := key 0 hn
    have hspot : spot = none := by simpa [Addr.add] using World.cell?_spot hc0
    subst hspot
    rw [Addr.add_lit] at hc0
    refine ⟨b, o, rfl, World.block_lt_of_cell? W _ hc0, fun i hin => ?_⟩
    obtain ⟨x, y, u, z, a1, a2, a3, a4⟩ := key i hin
    rw [Addr.add_lit] at a1
    rw [Addr.add_lit, Addr.add_lit] at a2 a3 a4
    exact ⟨x, y, u, z, a1, a2, a3, a4⟩
theorem Steps.step {w w' : World} {A : Option Addr} {m : Nat} (h : Steps w A m) (hb : Below w.heap.size w w') : Steps w' A m := fun hm => by
  obtain ⟨b, o, e, hlt, hc⟩ := h hm
  refine ⟨b, o, e, Nat.lt_of_lt_of_le hlt hb.size, fun i hi => ?_⟩
  obtain ⟨x, y, u, z, a1, a2, a3, a4⟩ := hc i hi
  exact ⟨x, y, u, z, (hb.cell (p := ⟨b, o + i * 4, none⟩) hlt).trans a1, (hb.cell (p := ⟨b, o + i * 4 + 1, none⟩) hlt).trans a2, (hb.cell (p := ⟨b, o + i * 4 + 2, none⟩) hlt).trans a3, (hb.cell (p := ⟨b, o + i * 4 + 3, none⟩) hlt).trans a4⟩
end Go.Proofs.Ytjogpkkokblmoaa
