/- Scripts: an argument that is a slice of structs of a number and a number of 32 bits, read cell by cell. -/
import Derived.Test.YtofebpikihandaaFrame
import Derived.Deep.Slices
import Derived.Deep.Fields
namespace Go.Proofs.Ytofebpikihandaa
open Go.ChangeShapes Go.WideShapes Go.ChangeAt Go.RowKit Go.Deep
set_option linter.unusedVariables false

/-- The slice at A has m elements of two numbers each: p i, and q i of 32 bits. -/
def Acts (w : World) (A : Option Addr) (m : Nat) (p q : Nat → Int) : Prop :=
  0 < m → ∃ b o, A = some ⟨b, o, none⟩ ∧ b < w.heap.size ∧ ∀ i, i < m →
    w.cell? ⟨b, o + i * 2, none⟩ = some (.int .i64 (p i)) ∧ w.cell? ⟨b, o + i * 2 + 1, none⟩ = some (.int .u32 (q i)) ∧
    0 ≤ q i ∧ q i ≤ 4294967295

theorem open_acts {H : Type} {enc : TypeId × Value → H} {P : Program} {W : World} {base : Nat} {held : Bool} {t e : TypeId} {f0 f1 : Field} (ht : P.underlying t = some (.slice e)) (he : P.underlying e = some (.struct #[f0, f1])) (h0 : P.underlying f0.type = some (.int .i64)) (h1 : P.underlying f1.type = some (.int .u32))
    (hone : oneCellFields P #[f0, f1] = true) (hC : P.cellsOf e = 2) {a : Option Addr} {n c : Nat} {d : DataW H} {p : List MemPlace} (h : DataW.Trod enc P W base (fun _ => true) held t (.slice a n c) d p) : ∃ p q, Acts W a n p q := by
  obtain ⟨fuel, hf⟩ := h
  rcases open_slice ht hf with ⟨hcs, _⟩ | ⟨ad, len, cap, m, k, D, Pl, hcs, _, hl, _, hm, _, hi⟩
  · simp [Value.cells] at hcs
    obtain ⟨rfl, rfl, rfl⟩ := hcs
    exact ⟨fun _ => 0, fun _ => 0, fun h => absurd h (by omega)⟩
  · simp [Value.cells] at hcs
    obtain ⟨rfl, rfl, rfl⟩ := hcs
    obtain rfl : m = c := by simpa using hm
    have key : ∀ i, i < n → ∃ x y : Int, W.cell? (ad.add (i * 2)) = some (.int .i64 x) ∧ W.cell? ((ad.add (i * 2)).add 1) = some (.int .u32 y) ∧ (Lit.int .u32 y).wf = true := by
      intro i hin
      obtain ⟨cs, hcells, htr⟩ := hi i (by omega)
      rw [hC] at hcells
      obtain ⟨_, hcl, hat⟩ := World.cells?_some hcells
      obtain ⟨xs, n', _, _, _, hxl, hfld⟩ := DataW.trod_struct he htr
      obtain ⟨o0, k0⟩ := hone_of hone 0 f0 rfl
      obtain ⟨o1, k1⟩ := hone_of hone 1 f1 rfl
      have g0 := hfld 0 f0 rfl
      have g1 := hfld 1 f1 rfl
      rw [o0, k0, List.drop_zero] at g0
      rw [o1, k1] at g1
      match cs, hcl, xs, hxl with
      | [u, v], _, [y0, y1], _ =>
        obtain ⟨x, hx, _, _⟩ := DataW.trod_int h0 (show DataW.trod enc P W base (fun _ => true) held n' f0.type [u] = some y0 from g0)
        obtain ⟨y, hy, _, hwf⟩ := DataW.trod_int h1 (show DataW.trod enc P W base (fun _ => true) held n' f1.type [v] = some y1 from g1)
        simp only [List.cons.injEq, and_true] at hx hy
        subst hx
        subst hy
        refine ⟨x, y, ?_, ?_, hwf⟩
        · have := hat 0 (by omega)
          simpa [Addr.add] using this
        · simpa using hat 1 (by omega)
    have hx : ∀ i, ∃ x : Int, i < n → W.cell? (ad.add (i * 2)) = some (.int .i64 x) := by
      intro i
      by_cases h : i < n
      · obtain ⟨x, y, a1, _⟩ := key i h
        exact ⟨x, fun _ => a1⟩
      · exact ⟨0, fun h' => absurd h' h⟩
    have hy : ∀ i, ∃ y : Int, i < n → W.cell? ((ad.add (i * 2)).add 1) = some (.int .u32 y) ∧ (Lit.int .u32 y).wf = true := by
      intro i
      by_cases h : i < n
      · obtain ⟨x, y, _, a2, a3⟩ := key i h
        exact ⟨y, fun _ => ⟨a2, a3⟩⟩
      · exact ⟨0, fun h' => absurd h' h⟩
    obtain ⟨p, hp⟩ := Classical.axiomOfChoice hx
    obtain ⟨q, hq⟩ := Classical.axiomOfChoice hy
    refine ⟨p, q, fun hn => ?_⟩
    obtain ⟨b, o, spot⟩ := ad
    have hc0 := hp 0 hn
    have hspot : spot = none := by simpa [Addr.add] using World.cell?_spot hc0
    subst hspot
    rw [Addr.add_lit] at hc0
    refine ⟨b, o, rfl, World.block_lt_of_cell? W _ hc0, fun i hin => ?_⟩
    have a1 := hp i hin
    have ⟨a2, a3⟩ := hq i hin
    rw [Addr.add_lit] at a1
    rw [Addr.add_lit, Addr.add_lit] at a2
    exact ⟨a1, a2, bounds_u32 a3⟩
theorem Acts.step {w w' : World} {A : Option Addr} {m : Nat} {p q : Nat → Int} (h : Acts w A m p q) (hb : Below w.heap.size w w') : Acts w' A m p q := fun hm => by
  obtain ⟨b, o, e, hlt, hc⟩ := h hm
  refine ⟨b, o, e, Nat.lt_of_lt_of_le hlt hb.size, fun i hi => ?_⟩
  obtain ⟨a1, a2, a3⟩ := hc i hi
  exact ⟨(hb.cell (p := ⟨b, o + i * 2, none⟩) hlt).trans a1, (hb.cell (p := ⟨b, o + i * 2 + 1, none⟩) hlt).trans a2, a3⟩
end Go.Proofs.Ytofebpikihandaa
