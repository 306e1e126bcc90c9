/- A slice of truth values that came in, read one by one. -/
import Derived.Test.YtnbicbnighpkjaaFrame
import Derived.Deep.Grids
namespace Go.Proofs.Ytnbicbnighpkjaa
open Go.ChangeShapes Go.WideShapes Go.ChangeAt Go.RowKit Go.Deep
set_option linter.unusedVariables false

/-- The slice at A, of n and room for c, reads as bl. -/
def LS (w : World) (A : Option Addr) (n c : Nat) (bl : List Bool) : Prop := n = bl.length ∧ n ≤ c ∧ SR w A (bl.map Value.bool)
theorem LS.step {w w' : World} {A : Option Addr} {n c : Nat} {bl : List Bool} (h : LS w A n c bl) (hb : Below w.heap.size w w') : LS w' A n c bl := ⟨h.1, h.2.1, h.2.2.step hb⟩
theorem LS.at_ {w : World} {A : Option Addr} {n c : Nat} {bl : List Bool} (h : LS w A n c bl) {j : Nat} (hj : j < n) : ∃ b o v, A = some ⟨b, o, none⟩ ∧ b < w.heap.size ∧ w.cell? ⟨b, o + j, none⟩ = some (.bool v) ∧ bl.getD j false = v := by
  have hl : j < bl.length := by have := h.1; omega
  obtain ⟨b, o, e, hlt, hc⟩ := h.2.2.at_ (j := j) (by simpa using hl)
  exact ⟨b, o, bl[j], e, hlt, by simpa using hc, by rw [List.getD_eq_getElem?_getD, List.getElem?_eq_getElem hl]; rfl⟩
theorem open_boolsl {H : Type} {enc : TypeId × Value → H} {P : Program} {W : World} {base : Nat} {held : Bool} {t e : TypeId} (ht : P.underlying t = some (.slice e)) (he : P.underlying e = some .bool) (hc : P.cellsOf e = 1)
    {a : Option Addr} {n c : Nat} {d : DataW H} {p : List MemPlace} (h : DataW.Trod enc P W base (fun _ => true) held t (.slice a n c) d p) :
    ∃ bl, LS W a n c bl := by
  obtain ⟨fuel, hf⟩ := h
  rcases open_bools ht he hc hf with ⟨hcs, _⟩ | ⟨ad, len, cap, B, hcs, _, hl, hm, _, hcell⟩
  · simp [Value.cells] at hcs
    obtain ⟨rfl, rfl, rfl⟩ := hcs
    exact ⟨[], rfl, Nat.le_refl _, SR.nil _ _⟩
  · simp [Value.cells] at hcs
    obtain ⟨rfl, rfl, rfl⟩ := hcs
    refine ⟨(List.range n).map B, by simp, hl, fun hne => ?_⟩
    have hn : 0 < n := by
      rcases Nat.eq_zero_or_pos n with h0 | h0
      · subst h0; simp at hne
      · exact h0
    obtain ⟨b, o, spot⟩ := ad
    have hc0 := hcell 0 (by omega)
    have hspot : spot = none := by simpa [Addr.add] using World.cell?_spot hc0
    subst hspot
    rw [Addr.add_lit] at hc0
    refine ⟨b, o, rfl, World.block_lt_of_cell? W _ hc0, fun j u hu => ?_⟩
    rw [List.getElem?_map, List.getElem?_map] at hu
    have hj : j < n := by
      rcases Nat.lt_or_ge j n with h0 | h0
      · exact h0
      · rw [List.getElem?_eq_none (by simp; omega)] at hu; cases hu
    rw [List.getElem?_range hj] at hu
    have hcj := hcell j (by omega)
    rw [Addr.add_lit] at hcj
    rw [hcj]
    exact hu
end Go.Proofs.Ytnbicbnighpkjaa
