/- KAE of the stage: texts Q49, joined. -/
import Derived.Test.YtffjdknmfmlfnaaKAA
import Derived.Test.YtffjdknmfmlfnaaKAD
import Derived.Deep.Slices
import Derived.Deep.Fields
set_option linter.unusedSimpArgs false
set_option linter.unusedVariables false
namespace Go.Proofs.Ytffjdknmfmlfnaa
section
open Go.ChangeShapes Go.WideShapes Go.ChangeAt Go.RowKit Go.Deep

section
variable {H : Type} {enc : TypeId × Value → H} {P : Program} {W : World} {base : Nat} {held : Bool}
/-- All that is read takes at most the reach. -/
def Wk (P : Program) (t : TypeId) (d : DataW H) : Prop := ∀ n ∈ d.weights P t, n ≤ reachBytes
theorem weights_all {e : TypeId} : ∀ {ds : List (DataW H)} {d : DataW H}, d ∈ ds → ∀ n ∈ d.weights P e, n ∈ DataW.weightsAll P e ds
  | d0 :: r, d, h, n, hn => by
    simp only [DataW.weightsAll, List.mem_append]
    rcases List.mem_cons.1 h with rfl | h
    · exact .inl hn
    · exact .inr (weights_all h n hn)
theorem wk_elem {t e : TypeId} (ht : P.underlying t = some (.slice e)) {elems spare : List (DataW H)} (h : Wk P t (.slice elems spare)) {d : DataW H} (hd : d ∈ elems) : Wk P e d := fun n hn => h n (by
  simp only [DataW.weights, ht, List.mem_cons, List.mem_append]
  exact .inr (.inl (weights_all hd n hn)))
theorem wk_len {t e : TypeId} (ht : P.underlying t = some (.slice e)) {elems spare : List (DataW H)} (h : Wk P t (.slice elems spare)) : (elems.length + spare.length) * P.bytesOf e ≤ reachBytes := h _ (by
  simp only [DataW.weights, ht, List.mem_cons]
  exact .inl trivial)
theorem wk_part {t : TypeId} {fs : Array Field} (ht : P.underlying t = some (.struct fs)) {parts : List (DataW H)} (h : Wk P t (.agg parts)) {i : Nat} {f : Field} {d : DataW H} (hf : fs[i]? = some f) (hd : parts[i]? = some d) : Wk P f.type d := fun n hn => h n (by
  simp only [DataW.weights, ht]
  exact DataW.weights_mem_each (j := i) (by simp [hf]) hd n hn)
/-- A slice whose elements are read one by one. -/
theorem open_list {α : Type} {f : α → List Value} {K : Nat} (hK : 0 < K) (hf : ∀ x, (f x).length = K) {t e : TypeId} (ht : P.underlying t = some (.slice e)) (hc : P.cellsOf e = K) (Pr : α → Prop) (dflt : α)
    (hel : ∀ (cs : List Value) (y : DataW H × List MemPlace) (n : Nat), cs.length = K → DataW.trod enc P W base (fun _ => true) held n e cs = some y → Wk P e y.1 → ∃ x, cs = f x ∧ Pr x)
    {v : Value} {x : DataW H × List MemPlace} {fuel : Nat} (h : DataW.trod enc P W base (fun _ => true) held fuel t [v] = some x) (hw : Wk P t x.1) : ∃ a n c l, v = .slice a n c ∧ LR f W (a, n, c) l ∧ (∀ y ∈ l, Pr y) ∧ n * P.bytesOf e ≤ reachBytes := by
  rcases open_slice ht h with ⟨hcs, _⟩ | ⟨ad, len, cap, m, k, D, Pl, hcs, _, hl, _, hm, hx, hi⟩
  · injection hcs with hcs
    exact ⟨_, _, _, [], hcs, ⟨rfl, Nat.le_refl _, SR.nil _ _⟩, (fun y hy => by cases hy), by rw [Nat.zero_mul]; exact Nat.zero_le _⟩
  · injection hcs with hcs
    obtain rfl : m = cap := by simpa using hm
    rw [hx] at hw
    have key : ∀ i, ∃ x : α, i < len → (∀ j v, (f x)[j]? = some v → W.cell? ((ad.add (i * K)).add j) = some v) ∧ Pr x := by
      intro i
      by_cases hin : i < len
      · obtain ⟨cs, hcells, htr⟩ := hi i (by omega)
        rw [hc] at hcells
        obtain ⟨_, hcl, hat⟩ := World.cells?_some hcells
        obtain ⟨x, rfl, hx⟩ := hel cs _ k (by omega) htr (wk_elem ht hw (List.mem_map.2 ⟨i, by simpa using hin, rfl⟩))
        refine ⟨x, fun _ => ⟨fun j v hv => ?_, hx⟩⟩
        have hj : j < K := by
          rcases Nat.lt_or_ge j K with h0 | h0
          · exact h0
          · rw [List.getElem?_eq_none (by rw [hf]; exact h0)] at hv; cases hv
        have := hat j (by omega)
        rw [hv] at this
        exact this
      · exact ⟨dflt, fun h' => absurd h' hin⟩
    obtain ⟨g, hg⟩ := Classical.axiomOfChoice key
    have hget : ∀ i, i < len → ((List.range len).map g)[i]? = some (g i) := fun i hin => by simp [hin]
    refine ⟨_, _, _, (List.range len).map g, hcs, ⟨by simp, hl, fun hne => ?_⟩, fun y hy => ?_, Nat.le_trans (Nat.mul_le_mul_right _ (by simp)) (wk_len ht hw)⟩
    · have hn : 0 < len := by
        rcases Nat.eq_zero_or_pos len with h0 | h0
        · subst h0; simp [flatF] at hne
        · exact h0
      obtain ⟨v0, hv0⟩ : ∃ v0, (f (g 0))[0]? = some v0 := ⟨_, List.getElem?_eq_getElem (by rw [hf]; exact hK)⟩
      obtain ⟨b, o, spot⟩ := ad
      have hc0 := (hg 0 hn).1 0 _ hv0
      have hspot : spot = none := by simpa [Addr.add] using World.cell?_spot hc0
      subst hspot
      rw [Addr.add_lit, Addr.add_lit] at hc0
      refine ⟨b, o, rfl, World.block_lt_of_cell? W _ hc0, fun j v hv => ?_⟩
      have hjl : j < len * K := by
        rcases Nat.lt_or_ge j (len * K) with h0 | h0
        · exact h0
        · rw [List.getElem?_eq_none (by rw [flatF_len hf]; simp; omega)] at hv; cases hv
      have hjd : j / K < len := Nat.div_lt_of_lt_mul (by rw [Nat.mul_comm]; exact hjl)
      have hsum : j / K * K + j % K = j := by rw [Nat.mul_comm]; exact Nat.div_add_mod j K
      have hfg := flatF_get (f := f) hf _ (j / K) _ (hget (j / K) hjd) (j % K) (Nat.mod_lt _ hK)
      rw [hsum] at hfg
      rw [hfg] at hv
      have hgg := (hg (j / K) hjd).1 (j % K) v hv
      rw [Addr.add_lit, Addr.add_lit, Nat.add_assoc, hsum] at hgg
      exact hgg
    · obtain ⟨i, hir, rfl⟩ := List.mem_map.1 hy
      exact (hg i (by simpa using hir)).2
theorem le47 {n b : Nat} (h : n * b ≤ reachBytes) (hb : 1 ≤ b) : n ≤ 140737488355328 := by
  have h1 : n * 1 ≤ n * b := Nat.mul_le_mul_left n hb
  simp only [reachBytes] at h
  omega
theorem wf16 {x : Int} (h : (Lit.int .u16 x).wf = true) : 0 ≤ x ∧ x < 65536 := by
  simp [Lit.wf, IntKind.min, IntKind.max, IntKind.signed, IntKind.bits] at h
  omega
theorem wf32 {x : Int} (h : (Lit.int .u32 x).wf = true) : 0 ≤ x ∧ x < 4294967296 := by
  simp [Lit.wf, IntKind.min, IntKind.max, IntKind.signed, IntKind.bits] at h
  omega
theorem wf8 {x : Int} (h : (Lit.int .u8 x).wf = true) : 0 ≤ x ∧ x < 256 := by
  simp [Lit.wf, IntKind.min, IntKind.max, IntKind.signed, IntKind.bits] at h
  omega
theorem wf64 {x : Int} (h : (Lit.int .i64 x).wf = true) : -9223372036854775808 ≤ x ∧ x < 9223372036854775808 := by
  simp [Lit.wf, IntKind.min, IntKind.max, IntKind.signed, IntKind.bits] at h
  omega
/-- The fields of a struct whose fields are of one cell each. -/
theorem struct_field {e : TypeId} {fs : Array Field} (he : P.underlying e = some (.struct fs)) (hone : oneCellFields P fs = true) {cs : List Value} {x : DataW H × List MemPlace} {n : Nat} (h : DataW.trod enc P W base (fun _ => true) held n e cs = some x) (hw : Wk P e x.1) :
    ∃ n', ∀ (i : Nat) (f : Field) (v : Value), fs[i]? = some f → cs[i]? = some v → ∃ y, DataW.trod enc P W base (fun _ => true) held n' f.type [v] = some y ∧ Wk P f.type y.1 := by
  obtain ⟨xs, n', _, hx, _, hxl, hfld⟩ := DataW.trod_struct he h
  refine ⟨n', fun i f v hf hv => ?_⟩
  obtain ⟨o, k⟩ := hone_of hone i f hf
  have g := hfld i f hf
  rw [o, k] at g
  have hl : i < cs.length := (List.getElem?_eq_some_iff.1 hv).1
  have hd : (cs.drop i).take 1 = [v] := by
    rw [List.drop_eq_getElem_cons hl, List.take_succ_cons, List.take_zero]
    rw [List.getElem?_eq_getElem hl] at hv
    injection hv with hv
    rw [hv]
  rw [hd] at g
  have hi : i < xs.length := by rw [hxl]; exact (Array.getElem?_eq_some_iff.1 hf).1
  rw [List.getElem?_eq_getElem hi] at g
  refine ⟨xs[i], g, ?_⟩
  rw [hx] at hw
  exact wk_part he hw hf (by rw [List.getElem?_map, List.getElem?_eq_getElem hi]; rfl)
theorem open_pairs16 {t e : TypeId} {f0 f1 : Field} (ht : P.underlying t = some (.slice e)) (he : P.underlying e = some (.struct #[f0, f1])) (h0 : P.underlying f0.type = some (.int .u16)) (h1 : P.underlying f1.type = some (.int .u16)) (hone : oneCellFields P #[f0, f1] = true) (hc : P.cellsOf e = 2) (hby : 1 ≤ P.bytesOf e)
    {v : Value} {x : DataW H × List MemPlace} {fuel : Nat} (h : DataW.trod enc P W base (fun _ => true) held fuel t [v] = some x) (hw : Wk P t x.1) : ∃ a n c l, v = .slice a n c ∧ LR blC W (a, n, c) l ∧ (∀ y ∈ l, 0 ≤ y.1 ∧ y.1 < 65536 ∧ 0 ≤ y.2 ∧ y.2 < 65536) ∧ n ≤ 140737488355328 := by
  obtain ⟨a, n, c, l, r1, r2, r3, r4⟩ := open_list (by decide) blC_len ht hc (fun y => 0 ≤ y.1 ∧ y.1 < 65536 ∧ 0 ≤ y.2 ∧ y.2 < 65536) (0, 0) (fun cs y n hl htr hwk => by
    obtain ⟨n', hk⟩ := struct_field he hone htr hwk
    match cs, hl with
    | [u0, u1], _ =>
      obtain ⟨y0, g0, _⟩ := hk 0 f0 u0 rfl rfl
      obtain ⟨y1, g1, _⟩ := hk 1 f1 u1 rfl rfl
      obtain ⟨z0, q0, _, w0⟩ := DataW.trod_int h0 g0
      obtain ⟨z1, q1, _, w1⟩ := DataW.trod_int h1 g1
      simp only [List.cons.injEq, and_true] at q0 q1
      subst q0 q1
      exact ⟨(z0, z1), rfl, (wf16 w0).1, (wf16 w0).2, (wf16 w1).1, (wf16 w1).2⟩) h hw
  exact ⟨a, n, c, l, r1, r2, r3, le47 r4 hby⟩
theorem open_u32s {t e : TypeId} (ht : P.underlying t = some (.slice e)) (he : P.underlying e = some (.int .u32)) (hc : P.cellsOf e = 1) (hby : 1 ≤ P.bytesOf e)
    {v : Value} {x : DataW H × List MemPlace} {fuel : Nat} (h : DataW.trod enc P W base (fun _ => true) held fuel t [v] = some x) (hw : Wk P t x.1) : ∃ a n c l, v = .slice a n c ∧ LR duC W (a, n, c) l ∧ n ≤ 140737488355328 := by
  obtain ⟨a, n, c, l, h1, h2, _, r4⟩ := open_list (by decide) duC_len ht hc (fun _ => True) 0 (fun cs y n hl htr hwk => by
    match cs, hl with
    | [u0], _ =>
      obtain ⟨z0, q0, _, w0⟩ := DataW.trod_int he htr
      simp only [List.cons.injEq, and_true] at q0
      subst q0
      exact ⟨z0, rfl, trivial⟩) h hw
  exact ⟨a, n, c, l, h1, h2, le47 r4 hby⟩
theorem open_bytesW {t e : TypeId} (ht : P.underlying t = some (.slice e)) (he : P.underlying e = some (.int .u8)) (hc : P.cellsOf e = 1) (hb : P.bytesOf e = 1)
    {v : Value} {x : DataW H × List MemPlace} {fuel : Nat} (h : DataW.trod enc P W base (fun _ => true) held fuel t [v] = some x) (hw : Wk P t x.1) : ∃ a n c bs, v = .slice a n c ∧ BS W a n c bs ∧ n ≤ 140737488355328 := by
  have hsh : ∃ a n c, v = .slice a n c := by
    rcases open_slice ht h with ⟨hcs, _⟩ | ⟨ad, len, cap, m, k, D, Pl, hcs, _⟩
    · injection hcs with hcs
      exact ⟨_, _, _, hcs⟩
    · injection hcs with hcs
      exact ⟨_, _, _, hcs⟩
  obtain ⟨a, n, c, rfl⟩ := hsh
  obtain ⟨bs, hbs, hD⟩ := open_bytes ht he hc (d := x.1) (p := x.2) (⟨fuel, h⟩ : DataW.Trod enc P W base (fun _ => true) held t (.slice a n c) x.1 x.2)
  refine ⟨a, n, c, bs, rfl, hbs, ?_⟩
  rcases hD with ⟨_, rfl, _⟩ | ⟨el, sp, hx, hl⟩
  · exact Nat.zero_le _
  · rw [hx] at hw
    have h1 := wk_len ht hw
    rw [hb, hl] at h1
    have h2 := hbs.2.1
    simp only [reachBytes] at h1
    omega
theorem open_paramsW {t e u u8 : TypeId} {f0 f1 : Field} (ht : P.underlying t = some (.slice e)) (he : P.underlying e = some (.struct #[f0, f1])) (h0 : P.underlying f0.type = some (.int .u16)) (h1 : P.underlying f1.type = some (.slice u8)) (h8 : P.underlying u8 = some (.int .u8)) (c8 : P.cellsOf u8 = 1) (b8' : P.bytesOf u8 = 1) (hone : oneCellFields P #[f0, f1] = true) (hc : P.cellsOf e = 2) (hby : 1 ≤ P.bytesOf e)
    {v : Value} {x : DataW H × List MemPlace} {fuel : Nat} (h : DataW.trod enc P W base (fun _ => true) held fuel t [v] = some x) (hw : Wk P t x.1) : ∃ a n c l, v = .slice a n c ∧ LR PZ.cells W (a, n, c) l ∧ (∀ y ∈ l, PV5 W y) ∧ n ≤ 140737488355328 := by
  obtain ⟨a, n, c, l, r1, r2, r3, r4⟩ := open_list (by decide) PZ.len ht hc (PV5 W) (0, none, 0, 0, []) (fun cs y n hl htr hwk => by
    obtain ⟨n', hk⟩ := struct_field he hone htr hwk
    match cs, hl with
    | [u0, u1], _ =>
      obtain ⟨y0, g0, _⟩ := hk 0 f0 u0 rfl rfl
      obtain ⟨y1, g1, k1⟩ := hk 1 f1 u1 rfl rfl
      obtain ⟨z0, q0, _, w0⟩ := DataW.trod_int h0 g0
      obtain ⟨a, m, c, bs, rfl, hbs, hle⟩ := open_bytesW h1 h8 c8 b8' g1 k1
      simp only [List.cons.injEq, and_true] at q0
      subst q0
      exact ⟨(z0, a, m, c, bs), rfl, hbs, hle⟩) h hw
  exact ⟨a, n, c, l, r1, r2, r3, le47 r4 hby⟩
/-- The types of a chunk with all its lists. -/
structure ZTy (P : Program) (e : TypeId) : Prop where
  ok : ∃ (f0 f1 f2 f3 f4 f5 f6 f7 f8 f9 fa fb : Field) (e7 e8 e9 ea eb : TypeId) (b0 b1 s0 s1 p0 p1 : Field),
    P.underlying e = some (.struct #[f0, f1, f2, f3, f4, f5, f6, f7, f8, f9, fa, fb]) ∧ P.cellsOf e = 12 ∧ oneCellFields P #[f0, f1, f2, f3, f4, f5, f6, f7, f8, f9, fa, fb] = true ∧
    P.underlying f0.type = some (.int .u8) ∧ P.underlying f1.type = some (.int .u8) ∧ P.underlying f2.type = some (.int .u32) ∧ P.underlying f3.type = some (.int .u32) ∧ P.underlying f4.type = some (.int .u16) ∧ P.underlying f5.type = some (.int .u16) ∧ P.underlying f6.type = some (.int .u32) ∧
    P.underlying f7.type = some (.slice e7) ∧ P.underlying f8.type = some (.slice e8) ∧ P.underlying f9.type = some (.slice e9) ∧ P.underlying fa.type = some (.slice ea) ∧ P.underlying fb.type = some (.slice eb) ∧
    (P.underlying e7 = some (.struct #[b0, b1]) ∧ P.underlying b0.type = some (.int .u16) ∧ P.underlying b1.type = some (.int .u16) ∧ oneCellFields P #[b0, b1] = true ∧ P.cellsOf e7 = 2 ∧ 1 ≤ P.bytesOf e7) ∧
    (P.underlying e8 = some (.int .u32) ∧ P.cellsOf e8 = 1 ∧ 1 ≤ P.bytesOf e8) ∧
    (P.underlying e9 = some (.struct #[s0, s1]) ∧ P.underlying s0.type = some (.int .u16) ∧ P.underlying s1.type = some (.int .u16) ∧ oneCellFields P #[s0, s1] = true ∧ P.cellsOf e9 = 2 ∧ 1 ≤ P.bytesOf e9) ∧
    (P.underlying ea = some (.struct #[p0, p1]) ∧ P.underlying p0.type = some (.int .u16) ∧ P.underlying p1.type = some (.slice eb) ∧ oneCellFields P #[p0, p1] = true ∧ P.cellsOf ea = 2 ∧ 1 ≤ P.bytesOf ea) ∧
    (P.underlying eb = some (.int .u8) ∧ P.cellsOf eb = 1 ∧ P.bytesOf eb = 1)
/-- None of its lists is longer than the reach. -/
structure ZL (x : CZ) : Prop where
  bl : x.bl.2.1 ≤ 140737488355328
  du : x.du.2.1 ≤ 140737488355328
  sk : x.sk.2.1 ≤ 140737488355328
  pr : x.pr.2.1 ≤ 140737488355328
theorem zchunk_of_trod {e : TypeId} (hC : ZTy P e) {cs : List Value} {x : DataW H × List MemPlace} {fuel : Nat} (hl : cs.length = 12) (h : DataW.trod enc P W base (fun _ => true) held fuel e cs = some x) (hw : Wk P e x.1) : ∃ y : CZ, cs = y.cells ∧ ZV W y ∧ ZL y := by
  obtain ⟨f0, f1, f2, f3, f4, f5, f6, f7, f8, f9, fa, fb, e7, e8, e9, ea, eb, b0, b1, s0, s1, p0, p1, he, hce, hone, h0, h1, h2, h3, h4, h5, h6, h7, h8, h9, ha, hb, ⟨m1, m2, m3, m4, m5, m6⟩, ⟨d1, d2, d3⟩, ⟨k1, k2, k3, k4, k5, k6⟩, ⟨r1, r2, r3, r4, r5, r6⟩, ⟨v1, v2, v3⟩⟩ := hC.ok
  obtain ⟨n', hk⟩ := struct_field he hone h hw
  match cs, hl with
  | [u0, u1, u2, u3, u4, u5, u6, u7, u8, u9, ua, ub], _ =>
    obtain ⟨y0, g0, _⟩ := hk 0 f0 u0 rfl rfl
    obtain ⟨y1, g1, _⟩ := hk 1 f1 u1 rfl rfl
    obtain ⟨y2, g2, _⟩ := hk 2 f2 u2 rfl rfl
    obtain ⟨y3, g3, _⟩ := hk 3 f3 u3 rfl rfl
    obtain ⟨y4, g4, _⟩ := hk 4 f4 u4 rfl rfl
    obtain ⟨y5, g5, _⟩ := hk 5 f5 u5 rfl rfl
    obtain ⟨y6, g6, _⟩ := hk 6 f6 u6 rfl rfl
    obtain ⟨y7, g7, l7⟩ := hk 7 f7 u7 rfl rfl
    obtain ⟨y8, g8, l8⟩ := hk 8 f8 u8 rfl rfl
    obtain ⟨y9, g9, l9⟩ := hk 9 f9 u9 rfl rfl
    obtain ⟨ya, ga, la⟩ := hk 10 fa ua rfl rfl
    obtain ⟨yb, gb, lb⟩ := hk 11 fb ub rfl rfl
    obtain ⟨z0, q0, _, w0⟩ := DataW.trod_int h0 g0
    obtain ⟨z1, q1, _, w1⟩ := DataW.trod_int h1 g1
    obtain ⟨z2, q2, _, w2⟩ := DataW.trod_int h2 g2
    obtain ⟨z3, q3, _, w3⟩ := DataW.trod_int h3 g3
    obtain ⟨z4, q4, _, w4⟩ := DataW.trod_int h4 g4
    obtain ⟨z5, q5, _, w5⟩ := DataW.trod_int h5 g5
    obtain ⟨z6, q6, _, w6⟩ := DataW.trod_int h6 g6
    obtain ⟨a7, n7, c7, o7, rfl, x7, _, j7⟩ := open_pairs16 h7 m1 m2 m3 m4 m5 m6 g7 l7
    obtain ⟨a8, n8, c8, o8, rfl, x8, j8⟩ := open_u32s h8 d1 d2 d3 g8 l8
    obtain ⟨a9, n9, c9, o9, rfl, x9, _, j9⟩ := open_pairs16 h9 k1 k2 k3 k4 k5 k6 g9 l9
    obtain ⟨aa, na, ca, oa, rfl, xa, xp, ja⟩ := open_paramsW (u := ea) ha r1 r2 r3 v1 v2 v3 r4 r5 r6 ga la
    obtain ⟨ab, nb, cb, ob, rfl, xb, _⟩ := open_bytesW hb v1 v2 v3 gb lb
    simp only [List.cons.injEq, and_true] at q0 q1 q2 q3 q4 q5 q6
    subst q0 q1 q2 q3 q4 q5 q6
    exact ⟨⟨z0, z1, z2, z3, z4, z5, z6, (a7, n7, c7), (a8, n8, c8), (a9, n9, c9), (aa, na, ca), (ab, nb, cb), o7, o8, o9, oa, ob⟩, rfl, ⟨wf8 w0, wf8 w1, wf32 w2, wf32 w3, wf16 w4, wf16 w5, wf32 w6, x7, x8, x9, xa, xp, xb⟩, ⟨j7, j8, j9, ja⟩⟩
/-- A step as it lies. -/
structure FX where
  wh : Int
  n : Int
  m : Int
  l : SL
  cum : Int
  b : SL
  ls : List CZ
  bls : List (Int × Int)
def FX.cells (x : FX) : List Value := [.int .i64 x.wh, .int .i64 x.n, .int .i64 x.m, .slice x.l.1 x.l.2.1 x.l.2.2, .int .u32 x.cum, .slice x.b.1 x.b.2.1 x.b.2.2]
theorem FX.len (x : FX) : x.cells.length = 6 := rfl
structure FV (w : World) (x : FX) : Prop where
  m : x.m < 9223372036854775808
  l : ZS w x.l x.ls
  cum : 0 ≤ x.cum ∧ x.cum < 4294967296
  b : LR blC w x.b x.bls
  bk : ∀ y ∈ x.bls, 0 ≤ y.1 ∧ y.1 < 65536 ∧ 0 ≤ y.2 ∧ y.2 < 65536
  zl : ∀ y ∈ x.ls, ZL y
/-- The slice at A, of n steps, reads as l. -/
def FS (w : World) (A : Option Addr) (n c : Nat) (l : List FX) : Prop := LR FX.cells w (A, n, c) l ∧ ∀ x ∈ l, FV w x
structure FTy (P : Program) (e : TypeId) : Prop where
  ok : ∃ (f0 f1 f2 f3 f4 f5 : Field) (e3 e5 : TypeId) (b0 b1 : Field), P.underlying e = some (.struct #[f0, f1, f2, f3, f4, f5]) ∧ P.cellsOf e = 6 ∧ oneCellFields P #[f0, f1, f2, f3, f4, f5] = true ∧
    P.underlying f0.type = some (.int .i64) ∧ P.underlying f1.type = some (.int .i64) ∧ P.underlying f2.type = some (.int .i64) ∧ P.underlying f3.type = some (.slice e3) ∧ P.underlying f4.type = some (.int .u32) ∧ P.underlying f5.type = some (.slice e5) ∧
    ZTy P e3 ∧ P.cellsOf e3 = 12 ∧ (P.underlying e5 = some (.struct #[b0, b1]) ∧ P.underlying b0.type = some (.int .u16) ∧ P.underlying b1.type = some (.int .u16) ∧ oneCellFields P #[b0, b1] = true ∧ P.cellsOf e5 = 2 ∧ 1 ≤ P.bytesOf e5)
def zNil : CZ := ⟨0, 0, 0, 0, 0, 0, 0, (none, 0, 0), (none, 0, 0), (none, 0, 0), (none, 0, 0), (none, 0, 0), [], [], [], [], []⟩
theorem open_fops {t e : TypeId} (ht : P.underlying t = some (.slice e)) (hC : FTy P e) {a : Option Addr} {n c : Nat} {d : DataW H} {p : List MemPlace} (hw : Wk P t d) (h : DataW.Trod enc P W base (fun _ => true) held t (.slice a n c) d p) : ∃ l, FS W a n c l := by
  obtain ⟨fuel, hf⟩ := h
  obtain ⟨f0, f1, f2, f3, f4, f5, e3, e5, b0, b1, he, hce, hone, h0, h1, h2, h3, h4, h5, hz, hz12, ⟨m1, m2, m3, m4, m5, m6⟩⟩ := hC.ok
  obtain ⟨a', n', c', l, hv, h6, h7, _⟩ := open_list (f := FX.cells) (v := .slice a n c) (by decide) FX.len ht hce (FV W) ⟨0, 0, 0, (none, 0, 0), 0, (none, 0, 0), [], []⟩ (fun cs y k hl htr hwk => by
    obtain ⟨n', hk⟩ := struct_field he hone htr hwk
    match cs, hl with
    | [u0, u1, u2, u3, u4, u5], _ =>
      obtain ⟨y0, g0, _⟩ := hk 0 f0 u0 rfl rfl
      obtain ⟨y1, g1, _⟩ := hk 1 f1 u1 rfl rfl
      obtain ⟨y2, g2, _⟩ := hk 2 f2 u2 rfl rfl
      obtain ⟨y3, g3, l3⟩ := hk 3 f3 u3 rfl rfl
      obtain ⟨y4, g4, _⟩ := hk 4 f4 u4 rfl rfl
      obtain ⟨y5, g5, l5⟩ := hk 5 f5 u5 rfl rfl
      obtain ⟨z0, q0, _, w0⟩ := DataW.trod_int h0 g0
      obtain ⟨z1, q1, _, w1⟩ := DataW.trod_int h1 g1
      obtain ⟨z2, q2, _, w2⟩ := DataW.trod_int h2 g2
      obtain ⟨z4, q4, _, w4⟩ := DataW.trod_int h4 g4
      obtain ⟨a3, n3, c3, o3, rfl, x3, x3', _⟩ := open_list (by decide) CZ.len h3 hz12 (fun y => ZV W y ∧ ZL y) zNil (fun cs y n hl htr hwk => zchunk_of_trod hz hl htr hwk) g3 l3
      obtain ⟨a5, n5, c5, o5, rfl, x5, x5', _⟩ := open_pairs16 h5 m1 m2 m3 m4 m5 m6 g5 l5
      simp only [List.cons.injEq, and_true] at q0 q1 q2 q4
      subst q0 q1 q2 q4
      exact ⟨⟨z0, z1, z2, (a3, n3, c3), z4, (a5, n5, c5), o3, o5⟩, rfl, (wf64 w2).2, ⟨x3, fun y hy => (x3' y hy).1⟩, wf32 w4, x5, x5', fun y hy => (x3' y hy).2⟩) hf hw
  injection hv with e1 e2 e3
  subst e1 e2 e3
  exact ⟨l, h6, h7⟩
end
theorem zTy : ZTy Try.prog 45 :=
  ⟨_, _, _, _, _, _, _, _, _, _, _, _, 96, 22, 101, 108, 5, _, _, _, _, _, _, Try.underlying45, by kernel_rfl, by kernel_rfl, Try.underlying5, Try.underlying5, Try.underlying22, Try.underlying22, Try.underlying39, Try.underlying39, Try.underlying22,
    Try.underlying32, Try.underlying40, Try.underlying41, Try.underlying42, Try.underlying43, ⟨Try.underlying96, Try.underlying39, Try.underlying39, by kernel_rfl, by kernel_rfl, of_decide_eq_true (by kernel_rfl)⟩, ⟨Try.underlying22, by kernel_rfl, of_decide_eq_true (by kernel_rfl)⟩, ⟨Try.underlying101, Try.underlying39, Try.underlying39, by kernel_rfl, by kernel_rfl, of_decide_eq_true (by kernel_rfl)⟩, ⟨Try.underlying108, Try.underlying39, Try.underlying43, by kernel_rfl, by kernel_rfl, of_decide_eq_true (by kernel_rfl)⟩, ⟨Try.underlying5, by kernel_rfl, by kernel_rfl⟩⟩
theorem fTy : FTy Try.prog 34 :=
  ⟨_, _, _, _, _, _, 45, 96, _, _, Try.underlying34, by kernel_rfl, by kernel_rfl, Try.underlying3, Try.underlying3, Try.underlying3, Try.underlying31, Try.underlying22, Try.underlying32, zTy, by kernel_rfl, ⟨Try.underlying96, Try.underlying39, Try.underlying39, by kernel_rfl, by kernel_rfl, of_decide_eq_true (by kernel_rfl)⟩⟩
end
end Go.Proofs.Ytffjdknmfmlfnaa
