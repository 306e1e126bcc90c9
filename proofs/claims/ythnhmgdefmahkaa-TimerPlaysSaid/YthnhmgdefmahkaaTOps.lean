/- An argument that is a slice of structs of three numbers, read cell by cell. -/
import Derived.Test.YthnhmgdefmahkaaFrame
import Derived.Deep.Slices
import Derived.Deep.Fields
namespace Go.Proofs.Ythnhmgdefmahkaa
open Go.ChangeShapes Go.WideShapes Go.ChangeAt Go.RowKit Go.Deep
set_option linter.unusedVariables false

/-- The slice at A has m elements of three numbers each: p i, q i, r i. -/
def Trips (w : World) (A : Option Addr) (m : Nat) (p q r : Nat → Int) : Prop :=
  0 < m → ∃ b o, A = some ⟨b, o, none⟩ ∧ b < w.heap.size ∧ ∀ i, i < m →
    w.cell? ⟨b, o + i * 3, none⟩ = some (.int .i64 (p i)) ∧ w.cell? ⟨b, o + i * 3 + 1, none⟩ = some (.int .i64 (q i)) ∧ w.cell? ⟨b, o + i * 3 + 2, none⟩ = some (.int .i64 (r i)) ∧
    (Lit.int .i64 (q i)).wf = true ∧ (Lit.int .i64 (r i)).wf = true

theorem open_trips {H : Type} {enc : TypeId × Value → H} {P : Program} {W : World} {base : Nat} {held : Bool} {t e : TypeId} {f0 f1 f2 : Field} (ht : P.underlying t = some (.slice e)) (he : P.underlying e = some (.struct #[f0, f1, f2])) (h0 : P.underlying f0.type = some (.int .i64)) (h1 : P.underlying f1.type = some (.int .i64)) (h2 : P.underlying f2.type = some (.int .i64))
    (hone : oneCellFields P #[f0, f1, f2] = true) (hC : P.cellsOf e = 3) {a : Option Addr} {n c : Nat} {d : DataW H} {p : List MemPlace} (h : DataW.Trod enc P W base (fun _ => true) held t (.slice a n c) d p) : ∃ p q r, Trips W a n p q r := by
  obtain ⟨fuel, hf⟩ := h
  rcases open_slice ht hf with ⟨hcs, _⟩ | ⟨ad, len, cap, m, k, D, Pl, hcs, _, hl, _, hm, _, hi⟩
  · simp [Value.cells] at hcs
    obtain ⟨rfl, rfl, rfl⟩ := hcs
    exact ⟨fun _ => 0, fun _ => 0, fun _ => 0, fun h => absurd h (by omega)⟩
  · simp [Value.cells] at hcs
    obtain ⟨rfl, rfl, rfl⟩ := hcs
    obtain rfl : m = c := by simpa using hm
    have key : ∀ i, i < n → ∃ x : Int × Int × Int, W.cell? (ad.add (i * 3)) = some (.int .i64 x.1) ∧ W.cell? ((ad.add (i * 3)).add 1) = some (.int .i64 x.2.1) ∧ W.cell? ((ad.add (i * 3)).add 2) = some (.int .i64 x.2.2) ∧ (Lit.int .i64 x.2.1).wf = true ∧ (Lit.int .i64 x.2.2).wf = true := by
      intro i hin
      obtain ⟨cs, hcells, htr⟩ := hi i (by omega)
      rw [hC] at hcells
      obtain ⟨_, hcl, hat⟩ := World.cells?_some hcells
      obtain ⟨xs, n', _, _, _, hxl, hfld⟩ := DataW.trod_struct he htr
      obtain ⟨o0, k0⟩ := hone_of hone 0 f0 rfl
      obtain ⟨o1, k1⟩ := hone_of hone 1 f1 rfl
      obtain ⟨o2, k2⟩ := hone_of hone 2 f2 rfl
      have g0 := hfld 0 f0 rfl
      have g1 := hfld 1 f1 rfl
      have g2 := hfld 2 f2 rfl
      rw [o0, k0, List.drop_zero] at g0
      rw [o1, k1] at g1
      rw [o2, k2] at g2
      match cs, hcl, xs, hxl with
      | [u, v, z], _, [y0, y1, y2], _ =>
        obtain ⟨x, hx, _, _⟩ := DataW.trod_int h0 (show DataW.trod enc P W base (fun _ => true) held n' f0.type [u] = some y0 from g0)
        obtain ⟨y, hy, _, hwf⟩ := DataW.trod_int h1 (show DataW.trod enc P W base (fun _ => true) held n' f1.type [v] = some y1 from g1)
        obtain ⟨z', hz, _, hwz⟩ := DataW.trod_int h2 (show DataW.trod enc P W base (fun _ => true) held n' f2.type [z] = some y2 from g2)
        simp only [List.cons.injEq, and_true] at hx hy hz
        subst hx
        subst hy
        subst hz
        refine ⟨(x, y, z'), ?_, ?_, ?_, hwf, hwz⟩
        · have := hat 0 (by omega)
          simpa [Addr.add] using this
        · simpa using hat 1 (by omega)
        · simpa using hat 2 (by omega)
    have hx : ∀ i, ∃ x : Int × Int × Int, i < n → W.cell? (ad.add (i * 3)) = some (.int .i64 x.1) ∧ W.cell? ((ad.add (i * 3)).add 1) = some (.int .i64 x.2.1) ∧ W.cell? ((ad.add (i * 3)).add 2) = some (.int .i64 x.2.2) ∧ (Lit.int .i64 x.2.1).wf = true ∧ (Lit.int .i64 x.2.2).wf = true := by
      intro i
      by_cases h : i < n
      · obtain ⟨x, a1⟩ := key i h
        exact ⟨x, fun _ => a1⟩
      · exact ⟨(0, 0, 0), fun h' => absurd h' h⟩
    obtain ⟨f, hf⟩ := Classical.axiomOfChoice hx
    refine ⟨fun i => (f i).1, fun i => (f i).2.1, fun i => (f i).2.2, fun hn => ?_⟩
    obtain ⟨b, o, spot⟩ := ad
    have hc0 := (hf 0 hn).1
    have hspot : spot = none := by simpa [Addr.add] using World.cell?_spot hc0
    subst hspot
    rw [Addr.add_lit] at hc0
    refine ⟨b, o, rfl, World.block_lt_of_cell? W _ hc0, fun i hin => ?_⟩
    obtain ⟨a1, a2, a3, a4⟩ := hf i hin
    rw [Addr.add_lit] at a1
    rw [Addr.add_lit, Addr.add_lit] at a2 a3
    exact ⟨a1, a2, a3, a4⟩
theorem Trips.step {w w' : World} {A : Option Addr} {m : Nat} {p q r : Nat → Int} (h : Trips w A m p q r) (hb : Below w.heap.size w w') : Trips w' A m p q r := fun hm => by
  obtain ⟨b, o, e, hlt, hc⟩ := h hm
  refine ⟨b, o, e, Nat.lt_of_lt_of_le hlt hb.size, fun i hi => ?_⟩
  obtain ⟨a1, a2, a3, a4⟩ := hc i hi
  exact ⟨(hb.cell (p := ⟨b, o + i * 3, none⟩) hlt).trans a1, (hb.cell (p := ⟨b, o + i * 3 + 1, none⟩) hlt).trans a2, (hb.cell (p := ⟨b, o + i * 3 + 2, none⟩) hlt).trans a3, a4⟩
theorem Trips.at_ {w : World} {A : Option Addr} {m : Nat} {p q r : Nat → Int} (h : Trips w A m p q r) {j : Nat} (hj : j < m) :
    ∃ b o x y z, A = some ⟨b, o, none⟩ ∧ b < w.heap.size ∧ w.cell? ⟨b, o + j * 3, none⟩ = some (.int .i64 x) ∧ w.cell? ⟨b, o + j * 3 + 1, none⟩ = some (.int .i64 y) ∧ w.cell? ⟨b, o + j * 3 + 2, none⟩ = some (.int .i64 z) ∧
      (Lit.int .i64 y).wf = true ∧ (Lit.int .i64 z).wf = true := by
  obtain ⟨b, o, e, hlt, hc⟩ := h (by omega)
  obtain ⟨a1, a2, a3, a4, a5⟩ := hc j hj
  exact ⟨b, o, _, _, _, e, hlt, a1, a2, a3, a4, a5⟩
end Go.Proofs.Ythnhmgdefmahkaa
