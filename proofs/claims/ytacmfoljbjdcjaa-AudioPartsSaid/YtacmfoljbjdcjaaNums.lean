/- A slice of numbers of one integer kind that came in, read number by number. -/
import Derived.Test.YtacmfoljbjdcjaaFrame
namespace Go.Proofs.Ytacmfoljbjdcjaa
open Go.ChangeShapes Go.WideShapes Go.ChangeAt Go.RowKit
set_option linter.unusedVariables false

/-- The slice at A, of n and room for c, reads as the numbers zs. -/
def NS (k : IntKind) (w : World) (A : Option Addr) (n c : Nat) (zs : List Int) : Prop := n = zs.length ∧ n ≤ c ∧ SR w A (zs.map (.int k)) ∧ ∀ z ∈ zs, (Lit.int k z).wf = true
theorem NS.step {k : IntKind} {w w' : World} {A : Option Addr} {n c : Nat} {zs : List Int} (h : NS k w A n c zs) (hb : Below w.heap.size w w') : NS k w' A n c zs := ⟨h.1, h.2.1, h.2.2.1.step hb, h.2.2.2⟩
theorem NS.at_ {k : IntKind} {w : World} {A : Option Addr} {n c : Nat} {zs : List Int} (h : NS k w A n c zs) {j : Nat} (hj : j < n) :
    ∃ b o z, A = some ⟨b, o, none⟩ ∧ b < w.heap.size ∧ w.cell? ⟨b, o + j, none⟩ = some (.int k z) ∧ zs[j]? = some z ∧ (Lit.int k z).wf = true := by
  have hl : j < zs.length := by have := h.1; omega
  obtain ⟨b, o, e, hlt, hc⟩ := h.2.2.1.at_ (j := j) (by simpa using hl)
  exact ⟨b, o, zs[j], e, hlt, by simpa using hc, List.getElem?_eq_getElem hl, h.2.2.2 _ (List.getElem_mem hl)⟩

theorem open_nums {k : IntKind} {H : Type} {enc : TypeId × Value → H} {P : Program} {W : World} {base : Nat} {held : Bool} {t e : TypeId} (ht : P.underlying t = some (.slice e)) (he : P.underlying e = some (.int k)) (hc : P.cellsOf e = 1)
    {a : Option Addr} {n c : Nat} {d : DataW H} {p : List MemPlace} (h : DataW.Trod enc P W base (fun _ => true) held t (.slice a n c) d p) :
    ∃ zs, NS k W a n c zs := by
  obtain ⟨fuel, hf⟩ := h
  rcases open_ints ht he hc hf with ⟨hcs, hx⟩ | ⟨x, l, c', zs, hcs, _, hl, hm, hz, hx, hcell, hwz⟩
  · simp [Value.cells] at hcs
    obtain ⟨rfl, rfl, rfl⟩ := hcs
    exact ⟨[], rfl, Nat.le_refl _, SR.nil _ _, by simp⟩
  · simp [Value.cells] at hcs
    obtain ⟨rfl, rfl, rfl⟩ := hcs
    have hz' : zs.length = c := by simpa using hz
    refine ⟨zs.take n, by simp; omega, hl, fun hne => ?_, fun z hzm => hwz z (List.mem_of_mem_take hzm)⟩
    have hn : 0 < n := by
      rcases Nat.eq_zero_or_pos n with h0 | h0
      · subst h0; simp at hne
      · exact h0
    obtain ⟨b, o, spot⟩ := x
    have hc0 := hcell 0 (by omega)
    have hspot : spot = none := by simpa [Addr.add] using World.cell?_spot hc0
    subst hspot
    rw [Addr.add_lit] at hc0
    refine ⟨b, o, rfl, World.block_lt_of_cell? W _ hc0, fun j u hu => ?_⟩
    rw [List.getElem?_map] at hu
    have hj : j < n := by
      rcases Nat.lt_or_ge j n with h0 | h0
      · exact h0
      · rw [List.getElem?_eq_none (by simp; omega)] at hu; cases hu
    rw [List.getElem?_take, if_pos hj, List.getElem?_eq_getElem (by omega)] at hu
    have hcj := hcell j (by omega)
    rw [Addr.add_lit] at hcj
    rw [hcj]
    simp only [Option.map_some, Option.some.injEq] at hu
    rw [← hu]
    simp [List.getD, List.getElem?_eq_getElem (show j < zs.length by omega)]
end Go.Proofs.Ytacmfoljbjdcjaa
