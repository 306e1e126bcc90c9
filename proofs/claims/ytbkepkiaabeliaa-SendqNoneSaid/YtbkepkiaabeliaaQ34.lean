/- A slice of blocks that came in. -/
import Derived.Test.YtbkepkiaabeliaaQ33
import Derived.Deep.Slices
import Derived.Deep.Fields
namespace Go.Proofs.Ytbkepkiaabeliaa
open Go.ChangeShapes Go.WideShapes Go.ChangeAt Go.RowKit Go.Deep
set_option linter.unusedVariables false

theorem wf_u16 {x : Int} (h : (Lit.int .u16 x).wf = true) : 0 ≤ x ∧ x < 65536 := by
  simp [Lit.wf, IntKind.min, IntKind.max, IntKind.signed, IntKind.bits] at h
  omega
theorem open_blocks {H : Type} {enc : TypeId × Value → H} {P : Program} {W : World} {base : Nat} {held : Bool} {t e : TypeId} {f0 f1 : Field} (ht : P.underlying t = some (.slice e)) (he : P.underlying e = some (.struct #[f0, f1])) (h0 : P.underlying f0.type = some (.int .u16)) (h1 : P.underlying f1.type = some (.int .u16))
    (hone : oneCellFields P #[f0, f1] = true) (hC : P.cellsOf e = 2) {a : Option Addr} {n c : Nat} {d : DataW H} {p : List MemPlace} (h : DataW.Trod enc P W base (fun _ => true) held t (.slice a n c) d p) : ∃ bl, LR blC W (a, n, c) bl ∧ BlOK bl := by
  obtain ⟨fuel, hf⟩ := h
  rcases open_slice ht hf with ⟨hcs, _⟩ | ⟨ad, len, cap, m, k, D, Pl, hcs, _, hl, _, hm, _, hi⟩
  · simp [Value.cells] at hcs
    obtain ⟨rfl, rfl, rfl⟩ := hcs
    exact ⟨[], ⟨rfl, Nat.le_refl _, SR.nil _ _⟩, fun x hx => by cases hx⟩
  · simp [Value.cells] at hcs
    obtain ⟨rfl, rfl, rfl⟩ := hcs
    obtain rfl : m = c := by simpa using hm
    have key : ∀ i, i < n → ∃ x y : Int, W.cell? (ad.add (i * 2)) = some (.int .u16 x) ∧ W.cell? ((ad.add (i * 2)).add 1) = some (.int .u16 y) ∧ (Lit.int .u16 x).wf = true ∧ (Lit.int .u16 y).wf = true := by
      intro i hin
      obtain ⟨cs, hcells, htr⟩ := hi i (by omega)
      rw [hC] at hcells
      obtain ⟨_, hcl, hat⟩ := World.cells?_some hcells
      obtain ⟨xs, n', _, _, _, hxl, hfld⟩ := DataW.trod_struct he htr
      obtain ⟨o0, k0⟩ := hone_of hone 0 f0 rfl
      obtain ⟨o1, k1⟩ := hone_of hone 1 f1 rfl
      have g0 := hfld 0 f0 rfl
      have g1 := hfld 1 f1 rfl
      rw [o0, k0, List.drop_zero] at g0
      rw [o1, k1] at g1
      match cs, hcl, xs, hxl with
      | [u, v], _, [y0, y1], _ =>
        obtain ⟨x, hx, _, hwx⟩ := DataW.trod_int h0 (show DataW.trod enc P W base (fun _ => true) held n' f0.type [u] = some y0 from g0)
        obtain ⟨y, hy, _, hwf⟩ := DataW.trod_int h1 (show DataW.trod enc P W base (fun _ => true) held n' f1.type [v] = some y1 from g1)
        simp only [List.cons.injEq, and_true] at hx hy
        subst hx
        subst hy
        refine ⟨x, y, ?_, ?_, hwx, hwf⟩
        · have := hat 0 (by omega)
          simpa [Addr.add] using this
        · simpa using hat 1 (by omega)
    have hx : ∀ i, ∃ z : Int × Int, i < n → W.cell? (ad.add (i * 2)) = some (.int .u16 z.1) ∧ W.cell? ((ad.add (i * 2)).add 1) = some (.int .u16 z.2) ∧ (0 ≤ z.1 ∧ z.1 < 65536) ∧ 0 ≤ z.2 ∧ z.2 < 65536 := by
      intro i
      by_cases h : i < n
      · obtain ⟨x, y, a1, a2, a3, a4⟩ := key i h
        exact ⟨(x, y), fun _ => ⟨a1, a2, wf_u16 a3, wf_u16 a4⟩⟩
      · exact ⟨(0, 0), fun h' => absurd h' h⟩
    obtain ⟨p, hp⟩ := Classical.axiomOfChoice hx
    refine ⟨(List.range n).map p, ⟨by simp, hl, fun hne => ?_⟩, fun x hx => ?_⟩
    · have hn : 0 < n := by
        rcases Nat.eq_zero_or_pos n with h0 | h0
        · subst h0; simp [flatF] at hne
        · exact h0
      obtain ⟨b, o, spot⟩ := ad
      have hc0 := (hp 0 hn).1
      have hspot : spot = none := by simpa [Addr.add] using World.cell?_spot hc0
      subst hspot
      rw [Addr.add_lit] at hc0
      refine ⟨b, o, rfl, World.block_lt_of_cell? W _ hc0, fun j u hu => ?_⟩
      have hfl : (flatF blC ((List.range n).map p)).length = n * 2 := by rw [flatF_len blC_len]; simp
      have hj : j < n * 2 := by rw [← hfl]; exact (List.getElem?_eq_some_iff.1 hu).1
      have hjn : j / 2 < n := by omega
      have hat := flatF_get (f := blC) blC_len ((List.range n).map p) (j / 2) (p (j / 2)) (by rw [List.getElem?_map, List.getElem?_range hjn]; rfl) (j % 2) (Nat.mod_lt _ (by decide))
      rw [show j / 2 * 2 + j % 2 = j by omega] at hat
      rw [hat] at hu
      obtain ⟨c1, c2, _⟩ := hp (j / 2) hjn
      rw [Addr.add_lit] at c1
      rw [Addr.add_lit, Addr.add_lit] at c2
      rcases Nat.mod_two_eq_zero_or_one j with h | h
      · rw [h] at hu
        rw [show o + j = o + j / 2 * 2 by omega]
        rw [c1]
        exact hu
      · rw [h] at hu
        rw [show o + j = o + j / 2 * 2 + 1 by omega]
        rw [c2]
        exact hu
    · obtain ⟨i, hi, rfl⟩ := List.mem_map.1 hx
      have := hp i (List.mem_range.1 hi)
      exact ⟨this.2.2.1.1, this.2.2.1.2, this.2.2.2.1, this.2.2.2.2⟩
end Go.Proofs.Ytbkepkiaabeliaa
