/- An argument that is a chunk, a slice of chunks, or a message, read cell by cell. Over every program. -/
import Derived.Test.YtacmfoljbjdcjaaFrame
import Derived.Test.YtacmfoljbjdcjaaCkM
import Derived.Deep.Slices
import Derived.Deep.Fields
namespace Go.Proofs.Ytacmfoljbjdcjaa
open Go.ChangeShapes Go.WideShapes Go.ChangeAt Go.RowKit Go.Deep
set_option linter.unusedVariables false

section
variable {H : Type} {enc : TypeId × Value → H} {P : Program} {W : World} {base : Nat} {held : Bool}
theorem slice_shape {t e : TypeId} (ht : P.underlying t = some (.slice e)) {v : Value} {x : DataW H × List MemPlace} {fuel : Nat} (h : DataW.trod enc P W base (fun _ => true) held fuel t [v] = some x) : ∃ a n c, v = .slice a n c := by
  rcases open_slice ht h with ⟨hcs, _⟩ | ⟨ad, len, cap, m, k, D, Pl, hcs, _⟩
  · injection hcs with hcs
    exact ⟨_, _, _, hcs⟩
  · injection hcs with hcs
    exact ⟨_, _, _, hcs⟩
theorem open_bytes_at {t e : TypeId} (ht : P.underlying t = some (.slice e)) (he : P.underlying e = some (.int .u8)) (hc : P.cellsOf e = 1)
    {v : Value} {x : DataW H × List MemPlace} {fuel : Nat} (h : DataW.trod enc P W base (fun _ => true) held fuel t [v] = some x) : ∃ a n c bs, v = .slice a n c ∧ BS W a n c bs := by
  obtain ⟨a, n, c, rfl⟩ := slice_shape ht h
  obtain ⟨bs, hbs, _⟩ := open_bytes ht he hc (d := x.1) (p := x.2) (⟨fuel, h⟩ : DataW.Trod enc P W base (fun _ => true) held t (.slice a n c) x.1 x.2)
  exact ⟨a, n, c, bs, rfl, hbs⟩
theorem open_pvs {t e u : TypeId} {f0 f1 : Field} (ht : P.underlying t = some (.slice e)) (he : P.underlying e = some (.struct #[f0, f1])) (h0 : P.underlying f0.type = some (.int .u16)) (h1 : P.underlying f1.type = some (.slice u))
    (hone : oneCellFields P #[f0, f1] = true) (ce : P.cellsOf e = 2) {v : Value} {x : DataW H × List MemPlace} {fuel : Nat} (h : DataW.trod enc P W base (fun _ => true) held fuel t [v] = some x) : ∃ a n c l, v = .slice a n c ∧ PR W a n c l := by
  rcases open_slice ht h with ⟨hcs, _⟩ | ⟨ad, len, cap, m, k, D, Pl, hcs, _, hl, _, hm, _, hi⟩
  · injection hcs with hcs
    exact ⟨_, _, _, [], hcs, PR.nil W⟩
  · injection hcs with hcs
    obtain rfl : m = cap := by simpa using hm
    have key : ∀ i, ∃ x : PV, i < len → W.cell? (ad.add (i * 2)) = some (.int .u16 x.1) ∧ W.cell? ((ad.add (i * 2)).add 1) = some (.slice x.2.1 x.2.2.1 x.2.2.2) := by
      intro i
      by_cases hin : i < len
      · obtain ⟨cs, hcells, htr⟩ := hi i (by omega)
        rw [ce] at hcells
        obtain ⟨_, hcl, hat⟩ := World.cells?_some hcells
        obtain ⟨xs, n', _, _, _, hxl, hfld⟩ := DataW.trod_struct he htr
        obtain ⟨o0, k0⟩ := hone_of hone 0 f0 rfl
        obtain ⟨o1, k1⟩ := hone_of hone 1 f1 rfl
        have g0 := hfld 0 f0 rfl
        have g1 := hfld 1 f1 rfl
        rw [o0, k0, List.drop_zero] at g0
        rw [o1, k1] at g1
        match cs, hcl, xs, hxl with
        | [u0, u1], _, [y0, y1], _ =>
          obtain ⟨z, hz, _, _⟩ := DataW.trod_int h0 (show DataW.trod enc P W base (fun _ => true) held n' f0.type [u0] = some y0 from g0)
          obtain ⟨a, n, c, hs⟩ := slice_shape h1 (show DataW.trod enc P W base (fun _ => true) held n' f1.type [u1] = some y1 from g1)
          simp only [List.cons.injEq, and_true] at hz
          subst hz
          subst hs
          refine ⟨(z, a, n, c), fun _ => ⟨?_, ?_⟩⟩
          · have := hat 0 (by omega)
            simpa [Addr.add] using this
          · simpa using hat 1 (by omega)
      · exact ⟨(0, none, 0, 0), fun h' => absurd h' hin⟩
    obtain ⟨g, hg⟩ := Classical.axiomOfChoice key
    have hget : ∀ i, i < len → ((List.range len).map g)[i]? = some (g i) := fun i hin => by simp [hin]
    refine ⟨_, _, _, (List.range len).map g, hcs, by simp, hl, fun hne => ?_⟩
    have hn : 0 < len := by
      rcases Nat.eq_zero_or_pos len with h0 | h0
      · subst h0; simp [flatF] at hne
      · exact h0
    obtain ⟨b, o, spot⟩ := ad
    have hc0 := (hg 0 hn).1
    have hspot : spot = none := by simpa [Addr.add] using World.cell?_spot hc0
    subst hspot
    rw [Addr.add_lit] at hc0
    refine ⟨b, o, rfl, World.block_lt_of_cell? W _ hc0, fun j v hv => ?_⟩
    have hjl : j < len * 2 := by
      rcases Nat.lt_or_ge j (len * 2) with h0 | h0
      · exact h0
      · rw [List.getElem?_eq_none (by rw [flatF_len PV.len]; simp; omega)] at hv; cases hv
    have hfg := flatF_get (f := PV.cells) PV.len _ (j / 2) _ (hget (j / 2) (by omega)) (j % 2) (by omega)
    rw [show j / 2 * 2 + j % 2 = j by omega] at hfg
    rw [hfg] at hv
    have hgg := hg (j / 2) (by omega)
    rw [Addr.add_lit, Addr.add_lit] at hgg
    rcases Nat.mod_two_eq_zero_or_one j with hm2 | hm2
    · rw [hm2] at hv
      rw [show j / 2 * 2 = j by omega] at hgg
      exact hgg.1.trans hv
    · rw [hm2] at hv
      have h2 := hgg.2
      rw [Nat.add_assoc, show j / 2 * 2 + 1 = j by omega] at h2
      exact h2.trans hv

/-- The types of a chunk. -/
structure ChunkTy (P : Program) (e : TypeId) : Prop where
  ok : ∃ (f0 f1 f2 f3 f4 f5 f6 f7 f8 f9 fa fb : Field) (e7 e8 e9 ea eb u : TypeId) (p0 p1 : Field),
    P.underlying e = some (.struct #[f0, f1, f2, f3, f4, f5, f6, f7, f8, f9, fa, fb]) ∧ P.cellsOf e = 12 ∧ oneCellFields P #[f0, f1, f2, f3, f4, f5, f6, f7, f8, f9, fa, fb] = true ∧
    P.underlying f0.type = some (.int .u8) ∧ P.underlying f1.type = some (.int .u8) ∧ P.underlying f2.type = some (.int .u32) ∧ P.underlying f3.type = some (.int .u32) ∧ P.underlying f4.type = some (.int .u16) ∧ P.underlying f5.type = some (.int .u16) ∧ P.underlying f6.type = some (.int .u32) ∧
    P.underlying f7.type = some (.slice e7) ∧ P.underlying f8.type = some (.slice e8) ∧ P.underlying f9.type = some (.slice e9) ∧ P.underlying fa.type = some (.slice ea) ∧ P.underlying fb.type = some (.slice eb) ∧
    P.underlying ea = some (.struct #[p0, p1]) ∧ P.underlying p0.type = some (.int .u16) ∧ P.underlying p1.type = some (.slice u) ∧ oneCellFields P #[p0, p1] = true ∧ P.cellsOf ea = 2 ∧
    P.underlying eb = some (.int .u8) ∧ P.cellsOf eb = 1
theorem chunk_of_trod {e : TypeId} (hC : ChunkTy P e) {cs : List Value} {x : DataW H × List MemPlace} {fuel : Nat} (hl : cs.length = 12) (h : DataW.trod enc P W base (fun _ => true) held fuel e cs = some x) : ∃ y : CX, cs = y.cells ∧ CV W y := by
  obtain ⟨f0, f1, f2, f3, f4, f5, f6, f7, f8, f9, fa, fb, e7, e8, e9, ea, eb, u, p0, p1, he, hce, hone, h0, h1, h2, h3, h4, h5, h6, h7, h8, h9, ha, hb, hea, hp0, hp1, honep, hcea, heb, hceb⟩ := hC.ok
  obtain ⟨xs, n', _, _, _, hxl, hfld⟩ := DataW.trod_struct he h
  match cs, hl, xs, hxl with
  | [v0, v1, v2, v3, v4, v5, v6, v7, v8, v9, va, vb], _, [y0, y1, y2, y3, y4, y5, y6, y7, y8, y9, ya, yb], _ =>
    have key : ∀ (i : Nat) (f : Field) (v : Value) (y : DataW H × List MemPlace), #[f0, f1, f2, f3, f4, f5, f6, f7, f8, f9, fa, fb][i]? = some f → ([v0, v1, v2, v3, v4, v5, v6, v7, v8, v9, va, vb].drop i).take 1 = [v] → [y0, y1, y2, y3, y4, y5, y6, y7, y8, y9, ya, yb][i]? = some y → DataW.trod enc P W base (fun _ => true) held n' f.type [v] = some y := by
      intro i f v y hf hv hy
      obtain ⟨o, k⟩ := hone_of hone i f hf
      have := hfld i f hf
      rw [o, k, hv, hy] at this
      exact this
    obtain ⟨z0, q0, _, w0⟩ := DataW.trod_int h0 (key 0 f0 v0 y0 rfl rfl rfl)
    obtain ⟨z1, q1, _, w1⟩ := DataW.trod_int h1 (key 1 f1 v1 y1 rfl rfl rfl)
    obtain ⟨z2, q2, _, w2⟩ := DataW.trod_int h2 (key 2 f2 v2 y2 rfl rfl rfl)
    obtain ⟨z3, q3, _, w3⟩ := DataW.trod_int h3 (key 3 f3 v3 y3 rfl rfl rfl)
    obtain ⟨z4, q4, _, w4⟩ := DataW.trod_int h4 (key 4 f4 v4 y4 rfl rfl rfl)
    obtain ⟨z5, q5, _, w5⟩ := DataW.trod_int h5 (key 5 f5 v5 y5 rfl rfl rfl)
    obtain ⟨z6, q6, _, w6⟩ := DataW.trod_int h6 (key 6 f6 v6 y6 rfl rfl rfl)
    obtain ⟨a7, n7, c7, q7⟩ := slice_shape h7 (key 7 f7 v7 y7 rfl rfl rfl)
    obtain ⟨a8, n8, c8, q8⟩ := slice_shape h8 (key 8 f8 v8 y8 rfl rfl rfl)
    obtain ⟨a9, n9, c9, q9⟩ := slice_shape h9 (key 9 f9 v9 y9 rfl rfl rfl)
    obtain ⟨aa, na, ca, la, qa, ra⟩ := open_pvs ha hea hp0 hp1 honep hcea (key 10 fa va ya rfl rfl rfl)
    obtain ⟨ab, nb, cb, lb, qb, rb⟩ := open_bytes_at hb heb hceb (key 11 fb vb yb rfl rfl rfl)
    simp only [List.cons.injEq, and_true] at q0 q1 q2 q3 q4 q5 q6
    have b0 := bounds_u8 w0
    have b1 := bounds_u8 w1
    have b2 := bounds_u32 w2
    have b3 := bounds_u32 w3
    have b4 := bounds_u16 w4
    have b5 := bounds_u16 w5
    have b6 := bounds_u32 w6
    subst q0 q1 q2 q3 q4 q5 q6 q7 q8 q9 qa qb
    exact ⟨⟨z0, z1, z2, z3, z4, z5, z6, (a7, n7, c7), (a8, n8, c8), (a9, n9, c9), (aa, na, ca), (ab, nb, cb), la, lb⟩, rfl, by dsimp only; omega, by dsimp only; omega, by dsimp only; omega, by dsimp only; omega, by dsimp only; omega, by dsimp only; omega, by dsimp only; omega, ra, rb⟩

theorem open_chunks {t e : TypeId} (ht : P.underlying t = some (.slice e)) (hC : ChunkTy P e) {a : Option Addr} {n c : Nat} {d : DataW H} {p : List MemPlace} (h : DataW.Trod enc P W base (fun _ => true) held t (.slice a n c) d p) : ∃ l, CS W a n c l := by
  obtain ⟨fuel, hf⟩ := h
  have hce : P.cellsOf e = 12 := by
    obtain ⟨f0, f1, f2, f3, f4, f5, f6, f7, f8, f9, fa, fb, e7, e8, e9, ea, eb, u, p0, p1, he, hce, _⟩ := hC.ok
    exact hce
  rcases open_slice ht hf with ⟨hcs, _⟩ | ⟨ad, len, cap, m, k, D, Pl, hcs, _, hl, _, hm, _, hi⟩
  · simp [Value.cells] at hcs
    obtain ⟨rfl, rfl, rfl⟩ := hcs
    exact ⟨[], CS.nil W⟩
  · simp [Value.cells] at hcs
    obtain ⟨rfl, rfl, rfl⟩ := hcs
    obtain rfl : m = c := by simpa using hm
    have key : ∀ i, ∃ x : CX, i < n → (∀ j v, x.cells[j]? = some v → W.cell? ((ad.add (i * 12)).add j) = some v) ∧ CV W x := by
      intro i
      by_cases hin : i < n
      · obtain ⟨cs, hcells, htr⟩ := hi i (by omega)
        rw [hce] at hcells
        obtain ⟨_, hcl, hat⟩ := World.cells?_some hcells
        obtain ⟨x, rfl, hx⟩ := chunk_of_trod hC (by omega) htr
        refine ⟨x, fun _ => ⟨fun j v hv => ?_, hx⟩⟩
        have hj : j < 12 := by
          rcases Nat.lt_or_ge j 12 with h0 | h0
          · exact h0
          · rw [List.getElem?_eq_none (by rw [CX.len]; exact h0)] at hv; cases hv
        have := hat j (by omega)
        rw [hv] at this
        exact this
      · exact ⟨⟨0, 0, 0, 0, 0, 0, 0, (none, 0, 0), (none, 0, 0), (none, 0, 0), (none, 0, 0), (none, 0, 0), [], []⟩, fun h' => absurd h' hin⟩
    obtain ⟨g, hg⟩ := Classical.axiomOfChoice key
    have hget : ∀ i, i < n → ((List.range n).map g)[i]? = some (g i) := fun i hin => by simp [hin]
    refine ⟨(List.range n).map g, by simp, hl, fun hne => ?_, fun x hx => ?_⟩
    · have hn : 0 < n := by
        rcases Nat.eq_zero_or_pos n with h0 | h0
        · subst h0; simp [flatF] at hne
        · exact h0
      obtain ⟨b, o, spot⟩ := ad
      have hc0 := (hg 0 hn).1 0 _ rfl
      have hspot : spot = none := by simpa [Addr.add] using World.cell?_spot hc0
      subst hspot
      rw [Addr.add_lit, Addr.add_lit] at hc0
      refine ⟨b, o, rfl, World.block_lt_of_cell? W _ hc0, fun j v hv => ?_⟩
      have hjl : j < n * 12 := by
        rcases Nat.lt_or_ge j (n * 12) with h0 | h0
        · exact h0
        · rw [List.getElem?_eq_none (by rw [flatF_len CX.len]; simp; omega)] at hv; cases hv
      have hfg := flatF_get (f := CX.cells) CX.len _ (j / 12) _ (hget (j / 12) (by omega)) (j % 12) (by omega)
      rw [show j / 12 * 12 + j % 12 = j by omega] at hfg
      rw [hfg] at hv
      have hgg := (hg (j / 12) (by omega)).1 (j % 12) v hv
      rw [Addr.add_lit, Addr.add_lit, Nat.add_assoc, show j / 12 * 12 + j % 12 = j by omega] at hgg
      exact hgg
    · obtain ⟨i, hir, rfl⟩ := List.mem_map.1 hx
      exact (hg i (by simpa using hir)).2
end
end Go.Proofs.Ytacmfoljbjdcjaa
