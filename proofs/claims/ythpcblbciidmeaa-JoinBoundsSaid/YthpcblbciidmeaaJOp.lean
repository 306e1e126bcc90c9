/- An argument that is a slice of steps of a join, read cell by cell. -/
import Derived.Test.YthpcblbciidmeaaCkO
import Derived.Test.YthpcblbciidmeaaSFrame
import Derived.Test.YthpcblbciidmeaaJU
namespace Go.Proofs.Ythpcblbciidmeaa
open Go.ChangeShapes Go.WideShapes Go.ChangeAt Go.RowKit Go.Deep
set_option linter.unusedVariables false

structure OX where
  wh : Int
  c : CX
  n : Int
  sk : Option Addr × Nat × Nat
  ks : List (Int × Int)
def OX.cells (x : OX) : List Value := .int .i64 x.wh :: (x.c.cells ++ [.int .u32 x.n, .slice x.sk.1 x.sk.2.1 x.sk.2.2])
theorem OX.len (x : OX) : x.cells.length = 15 := rfl
structure OV (w : World) (x : OX) : Prop where
  c : CV w x.c
  n : 0 ≤ x.n ∧ x.n < 4294967296
  ks : KS w x.sk.1 x.sk.2.1 x.sk.2.2 x.ks
/-- The slice at A, of n steps, reads as l. -/
def OS (w : World) (A : Option Addr) (n c : Nat) (l : List OX) : Prop := n = l.length ∧ n ≤ c ∧ SR w A (flatF OX.cells l) ∧ ∀ x ∈ l, OV w x
section
variable {H : Type} {enc : TypeId × Value → H} {P : Program} {W : World} {base : Nat} {held : Bool}
theorem open_kss {t e : TypeId} {f0 f1 : Field} (ht : P.underlying t = some (.slice e)) (he : P.underlying e = some (.struct #[f0, f1])) (h0 : P.underlying f0.type = some (.int .u16)) (h1 : P.underlying f1.type = some (.int .u16))
    (hone : oneCellFields P #[f0, f1] = true) (ce : P.cellsOf e = 2) {v : Value} {x : DataW H × List MemPlace} {fuel : Nat} (h : DataW.trod enc P W base (fun _ => true) held fuel t [v] = some x) : ∃ a n c l, v = .slice a n c ∧ KS W a n c l := by
  rcases open_slice ht h with ⟨hcs, _⟩ | ⟨ad, len, cap, m, k, D, Pl, hcs, _, hl, _, hm, _, hi⟩
  · injection hcs with hcs
    exact ⟨_, _, _, [], hcs, rfl, Nat.le_refl _, SR.nil _ _, fun _ hx => (by cases hx)⟩
  · injection hcs with hcs
    obtain rfl : m = cap := by simpa using hm
    have key : ∀ i, ∃ x : Int × Int, i < len → W.cell? (ad.add (i * 2)) = some (.int .u16 x.1) ∧ W.cell? ((ad.add (i * 2)).add 1) = some (.int .u16 x.2) ∧ 0 ≤ x.1 ∧ x.1 < 65536 ∧ 0 ≤ x.2 ∧ x.2 < 65536 := by
      intro i
      by_cases hin : i < len
      · obtain ⟨cs, hcells, htr⟩ := hi i (by omega)
        rw [ce] at hcells
        obtain ⟨_, hcl, hat⟩ := World.cells?_some hcells
        obtain ⟨xs, n', _, _, _, hxl, hfld⟩ := DataW.trod_struct he htr
        obtain ⟨o0, k0⟩ := hone_of hone 0 f0 rfl
        obtain ⟨o1, k1⟩ := hone_of hone 1 f1 rfl
        have g0 := hfld 0 f0 rfl
        have g1 := hfld 1 f1 rfl
        rw [o0, k0, List.drop_zero] at g0
        rw [o1, k1] at g1
        match cs, hcl, xs, hxl with
        | [u0, u1], _, [y0, y1], _ =>
          obtain ⟨z, hz, _, w0⟩ := DataW.trod_int h0 (show DataW.trod enc P W base (fun _ => true) held n' f0.type [u0] = some y0 from g0)
          obtain ⟨z1, hz1, _, w1⟩ := DataW.trod_int h1 (show DataW.trod enc P W base (fun _ => true) held n' f1.type [u1] = some y1 from g1)
          simp only [List.cons.injEq, and_true] at hz hz1
          have b0 := bounds_u16 w0
          have b1 := bounds_u16 w1
          subst hz hz1
          refine ⟨(z, z1), fun _ => ⟨?_, ?_, by dsimp only; omega, by dsimp only; omega, by dsimp only; omega, by dsimp only; omega⟩⟩
          · have := hat 0 (by omega)
            simpa [Addr.add] using this
          · simpa using hat 1 (by omega)
      · exact ⟨(0, 0), fun h' => absurd h' hin⟩
    obtain ⟨g, hg⟩ := Classical.axiomOfChoice key
    have hget : ∀ i, i < len → ((List.range len).map g)[i]? = some (g i) := fun i hin => by simp [hin]
    refine ⟨_, _, _, (List.range len).map g, hcs, by simp, hl, fun hne => ?_, fun x hx => ?_⟩
    · have hn : 0 < len := by
        rcases Nat.eq_zero_or_pos len with h0 | h0
        · subst h0; simp [flatF] at hne
        · exact h0
      obtain ⟨b, o, spot⟩ := ad
      have hc0 := (hg 0 hn).1
      have hspot : spot = none := by simpa [Addr.add] using World.cell?_spot hc0
      subst hspot
      rw [Addr.add_lit] at hc0
      refine ⟨b, o, rfl, World.block_lt_of_cell? W _ hc0, fun j v hv => ?_⟩
      have hjl : j < len * 2 := by
        rcases Nat.lt_or_ge j (len * 2) with h0 | h0
        · exact h0
        · rw [List.getElem?_eq_none (by rw [flatF_len skC_len]; simp; omega)] at hv; cases hv
      have hfg := flatF_get (f := skC) skC_len _ (j / 2) _ (hget (j / 2) (by omega)) (j % 2) (by omega)
      rw [show j / 2 * 2 + j % 2 = j by omega] at hfg
      rw [hfg] at hv
      have hgg := hg (j / 2) (by omega)
      rw [Addr.add_lit, Addr.add_lit] at hgg
      rcases Nat.mod_two_eq_zero_or_one j with hm2 | hm2
      · rw [hm2] at hv
        rw [show j / 2 * 2 = j by omega] at hgg
        exact hgg.1.trans hv
      · rw [hm2] at hv
        have h2 := hgg.2.1
        rw [Nat.add_assoc, show j / 2 * 2 + 1 = j by omega] at h2
        exact h2.trans hv
    · obtain ⟨i, hir, rfl⟩ := List.mem_map.1 hx
      exact (hg i (by simpa using hir)).2.2
/-- The types of a step. -/
structure OpTy (P : Program) (e : TypeId) : Prop where
  ok : ∃ (f0 f1 f2 f3 : Field) (e3 : TypeId) (p0 p1 : Field), P.underlying e = some (.struct #[f0, f1, f2, f3]) ∧ P.cellsOf e = 15 ∧
    (f0.offset = 0 ∧ P.cellsOf f0.type = 1) ∧ (f1.offset = 1 ∧ P.cellsOf f1.type = 12) ∧ (f2.offset = 13 ∧ P.cellsOf f2.type = 1) ∧ (f3.offset = 14 ∧ P.cellsOf f3.type = 1) ∧
    P.underlying f0.type = some (.int .i64) ∧ ChunkTy P f1.type ∧ P.underlying f2.type = some (.int .u32) ∧ P.underlying f3.type = some (.slice e3) ∧
    P.underlying e3 = some (.struct #[p0, p1]) ∧ P.underlying p0.type = some (.int .u16) ∧ P.underlying p1.type = some (.int .u16) ∧ oneCellFields P #[p0, p1] = true ∧ P.cellsOf e3 = 2
theorem op_of_trod {e : TypeId} (hC : OpTy P e) {cs : List Value} {x : DataW H × List MemPlace} {fuel : Nat} (hl : cs.length = 15) (h : DataW.trod enc P W base (fun _ => true) held fuel e cs = some x) : ∃ y : OX, cs = y.cells ∧ OV W y := by
  obtain ⟨f0, f1, f2, f3, e3, p0, p1, he, hce, ⟨o0, k0⟩, ⟨o1, k1⟩, ⟨o2, k2⟩, ⟨o3, k3⟩, h0, h1, h2, h3, hea, hp0, hp1, honep, hcea⟩ := hC.ok
  obtain ⟨xs, n', _, _, _, hxl, hfld⟩ := DataW.trod_struct he h
  match cs, hl, xs, hxl with
  | [v0, v1, v2, v3, v4, v5, v6, v7, v8, v9, va, vb, vc, vd, ve], _, [y0, y1, y2, y3], _ =>
    have g0 := hfld 0 f0 rfl
    have g1 := hfld 1 f1 rfl
    have g2 := hfld 2 f2 rfl
    have g3 := hfld 3 f3 rfl
    rw [o0, k0] at g0
    rw [o1, k1] at g1
    rw [o2, k2] at g2
    rw [o3, k3] at g3
    obtain ⟨z0, q0, _, w0⟩ := DataW.trod_int h0 (show DataW.trod enc P W base (fun _ => true) held n' f0.type [v0] = some y0 from g0)
    obtain ⟨c, qc, hc⟩ := chunk_of_trod h1 rfl (show DataW.trod enc P W base (fun _ => true) held n' f1.type [v1, v2, v3, v4, v5, v6, v7, v8, v9, va, vb, vc] = some y1 from g1)
    obtain ⟨z2, q2, _, w2⟩ := DataW.trod_int h2 (show DataW.trod enc P W base (fun _ => true) held n' f2.type [vd] = some y2 from g2)
    obtain ⟨a, n, cc, l, q3, hk⟩ := open_kss h3 hea hp0 hp1 honep hcea (show DataW.trod enc P W base (fun _ => true) held n' f3.type [ve] = some y3 from g3)
    simp only [List.cons.injEq, and_true] at q0 q2
    have b2 := bounds_u32 w2
    subst q0 q2 q3
    refine ⟨⟨z0, c, z2, (a, n, cc), l⟩, ?_, hc, by dsimp only; omega, hk⟩
    unfold OX.cells
    rw [← qc]
    rfl
theorem open_jops {t e : TypeId} (ht : P.underlying t = some (.slice e)) (hC : OpTy P e) {a : Option Addr} {n c : Nat} {d : DataW H} {p : List MemPlace} (h : DataW.Trod enc P W base (fun _ => true) held t (.slice a n c) d p) : ∃ l, OS W a n c l := by
  obtain ⟨fuel, hf⟩ := h
  have hce : P.cellsOf e = 15 := by
    obtain ⟨f0, f1, f2, f3, e3, p0, p1, he, hce, _⟩ := hC.ok
    exact hce
  rcases open_slice ht hf with ⟨hcs, _⟩ | ⟨ad, len, cap, m, k, D, Pl, hcs, _, hl, _, hm, _, hi⟩
  · simp [Value.cells] at hcs
    obtain ⟨rfl, rfl, rfl⟩ := hcs
    exact ⟨[], rfl, Nat.le_refl _, SR.nil _ _, fun _ hx => (by cases hx)⟩
  · simp [Value.cells] at hcs
    obtain ⟨rfl, rfl, rfl⟩ := hcs
    obtain rfl : m = c := by simpa using hm
    have key : ∀ i, ∃ x : OX, i < n → (∀ j v, x.cells[j]? = some v → W.cell? ((ad.add (i * 15)).add j) = some v) ∧ OV W x := by
      intro i
      by_cases hin : i < n
      · obtain ⟨cs, hcells, htr⟩ := hi i (by omega)
        rw [hce] at hcells
        obtain ⟨_, hcl, hat⟩ := World.cells?_some hcells
        obtain ⟨x, rfl, hx⟩ := op_of_trod hC (by omega) htr
        refine ⟨x, fun _ => ⟨fun j v hv => ?_, hx⟩⟩
        have hj : j < 15 := by
          rcases Nat.lt_or_ge j 15 with h0 | h0
          · exact h0
          · rw [List.getElem?_eq_none (by rw [OX.len]; exact h0)] at hv; cases hv
        have := hat j (by omega)
        rw [hv] at this
        exact this
      · exact ⟨⟨0, ⟨0, 0, 0, 0, 0, 0, 0, (none, 0, 0), (none, 0, 0), (none, 0, 0), (none, 0, 0), (none, 0, 0), [], []⟩, 0, (none, 0, 0), []⟩, fun h' => absurd h' hin⟩
    obtain ⟨g, hg⟩ := Classical.axiomOfChoice key
    have hget : ∀ i, i < n → ((List.range n).map g)[i]? = some (g i) := fun i hin => by simp [hin]
    refine ⟨(List.range n).map g, by simp, hl, fun hne => ?_, fun x hx => ?_⟩
    · have hn : 0 < n := by
        rcases Nat.eq_zero_or_pos n with h0 | h0
        · subst h0; simp [flatF] at hne
        · exact h0
      obtain ⟨b, o, spot⟩ := ad
      have hc0 := (hg 0 hn).1 0 _ rfl
      have hspot : spot = none := by simpa [Addr.add] using World.cell?_spot hc0
      subst hspot
      rw [Addr.add_lit, Addr.add_lit] at hc0
      refine ⟨b, o, rfl, World.block_lt_of_cell? W _ hc0, fun j v hv => ?_⟩
      have hjl : j < n * 15 := by
        rcases Nat.lt_or_ge j (n * 15) with h0 | h0
        · exact h0
        · rw [List.getElem?_eq_none (by rw [flatF_len OX.len]; simp; omega)] at hv; cases hv
      have hfg := flatF_get (f := OX.cells) OX.len _ (j / 15) _ (hget (j / 15) (by omega)) (j % 15) (by omega)
      rw [show j / 15 * 15 + j % 15 = j by omega] at hfg
      rw [hfg] at hv
      have hgg := (hg (j / 15) (by omega)).1 (j % 15) v hv
      rw [Addr.add_lit, Addr.add_lit, Nat.add_assoc, show j / 15 * 15 + j % 15 = j by omega] at hgg
      exact hgg
    · obtain ⟨i, hir, rfl⟩ := List.mem_map.1 hx
      exact (hg i (by simpa using hir)).2
end
theorem opTy : OpTy Try.prog 36 :=
  ⟨_, _, _, _, 55, _, _, Try.underlying36, by kernel_rfl, ⟨rfl, by kernel_rfl⟩, ⟨rfl, by kernel_rfl⟩, ⟨rfl, by kernel_rfl⟩, ⟨rfl, by kernel_rfl⟩, Try.underlying3, chunkTy, Try.underlying26, Try.underlying30, Try.underlying55, Try.underlying27, Try.underlying27, by kernel_rfl, by kernel_rfl⟩
end Go.Proofs.Ythpcblbciidmeaa
