/- Package topic: Pull. -/
import Derived.Test.YtnbicbnighpkjaaYG
import Derived.Laws.ResultCell
namespace Go.Proofs.Ytnbicbnighpkjaa
open Go.RowKit Go.Maps
set_option linter.unusedVariables false
set_option linter.unusedSimpArgs false

/-- The block g holds an item. -/
def IB (w : World) (g : Nat) (x : Iv) : Prop := w.heap[g]? = some (.cells x.cells.toArray 49 (0, 0))
section
variable {w W : World} {g : Nat} {x : Iv}
theorem IB.c0 (h : IB w g x) : w.cell? ⟨g, 0, none⟩ = some (.string x.tp) ∧ w.cell? ⟨g, 1, none⟩ = some (.int .i64 x.fr) ∧ w.cell? ⟨g, 2, none⟩ = some (.int .i64 x.nu) ∧ w.cell? ⟨g, 3, none⟩ = some (.bool x.tx) ∧ w.cell? ⟨g, 4, none⟩ = some (.slice x.da.1 x.da.2.1 x.da.2.2) :=
  ⟨upd_cell h 0 _ rfl, upd_cell h 1 _ rfl, upd_cell h 2 _ rfl, upd_cell h 3 _ rfl, upd_cell h 4 _ rfl⟩
theorem IB.fz (h : IB w g x) : w.frozen? ⟨g, 0, none⟩ = false ∧ w.frozen? ⟨g, 1, none⟩ = false ∧ w.frozen? ⟨g, 2, none⟩ = false ∧ w.frozen? ⟨g, 3, none⟩ = false ∧ w.frozen? ⟨g, 4, none⟩ = false := ⟨upd_fz h 0, upd_fz h 1, upd_fz h 2, upd_fz h 3, upd_fz h 4⟩
theorem IB.lt (h : IB w g x) : g < w.heap.size := (Array.getElem?_eq_some_iff.1 h).1
theorem IB.put0 (h : IB w g x) (v : ByteArray) : IB (w.setCell ⟨g, 0, none⟩ (.string v)) g { x with tp := v } := heap_setCell_same w g 0 _ _ _ h
theorem IB.put1 (h : IB w g x) (v : Int) : IB (w.setCell ⟨g, 1, none⟩ (.int .i64 v)) g { x with fr := v } := heap_setCell_same w g 1 _ _ _ h
theorem IB.put2 (h : IB w g x) (v : Int) : IB (w.setCell ⟨g, 2, none⟩ (.int .i64 v)) g { x with nu := v } := heap_setCell_same w g 2 _ _ _ h
theorem IB.put3 (h : IB w g x) (v : Bool) : IB (w.setCell ⟨g, 3, none⟩ (.bool v)) g { x with tx := v } := heap_setCell_same w g 3 _ _ _ h
theorem IB.put4 (h : IB w g x) (v : Option Addr × Nat × Nat) : IB (w.setCell ⟨g, 4, none⟩ (.slice v.1 v.2.1 v.2.2)) g { x with da := v } := heap_setCell_same w g 4 _ _ _ h
theorem IB.laid5 {x : Iv} (h : IB w g x) (y : Iv) : IB (((((w.setCell ⟨g, 0, none⟩ (.string y.tp)).setCell ⟨g, 1, none⟩ (.int .i64 y.fr)).setCell ⟨g, 2, none⟩ (.int .i64 y.nu)).setCell ⟨g, 3, none⟩ (.bool y.tx)).setCell ⟨g, 4, none⟩ (.slice y.da.1 y.da.2.1 y.da.2.2)) g y :=
  ((((h.put0 y.tp).put1 y.fr).put2 y.nu).put3 y.tx).put4 y.da
theorem IB.of (h : IB w g x) (hb : W.heap[g]? = w.heap[g]?) : IB W g x := hb.trans h
end
theorem part5 {S : Nat → Prop} (w : World) (g : Nat) (hg : S g) (x0 x1 x2 x3 x4 : Value) : Part S w (((((w.setCell ⟨g, 0, none⟩ x0).setCell ⟨g, 1, none⟩ x1).setCell ⟨g, 2, none⟩ x2).setCell ⟨g, 3, none⟩ x3).setCell ⟨g, 4, none⟩ x4) := by
  have t : ∀ {a b c : World}, Part S a b → Part S b c → Part S a c := fun p q => p.trans q fun i hi => .inl hi
  exact t (t (t (t (part_one w g 0 x0 hg) (part_one _ g 1 x1 hg)) (part_one _ g 2 x2 hg)) (part_one _ g 3 x3 hg)) (part_one _ g 4 x4 hg)
theorem item_size : Try.prog.cellsOf 49 = 5 := by kernel_rfl
theorem ret_item {fn : Func} {p u : Tmp} (hr : fn.results = #[.cell p 49, .tmp u]) (tmps : Array Value) (w : World) (g : Nat) (x : Iv) (hp : tmps.getD p undef = .pointer (some ⟨g, 0, none⟩)) (h : IB w g x) :
    (results fn tmps).run Try.prog w = .ok (.tuple #[.agg x.cells.toArray, tmps.getD u undef]) w := by
  rw [results_cell_tmp hr, hp]
  have := run_loadVar_row w g _ 49 x.cells.toArray (0, 0) _ h Try.underlying49 rfl (by first | kernel_rfl | rfl)
  simp [asAddr, this]
def itZ : It := ⟨⟨#[]⟩, 0, 0, false, []⟩
def pullM (M : Mo) (p : Int) : Mo := match M.at p with
  | some x => { M with P := putN M.P p.toNat (some { x with ws := x.ws.drop 1 }) }
  | none => M
def pullI (M : Mo) (p : Int) : It := match M.at p with
  | some x => x.ws.headD itZ
  | none => itZ
def pullB (M : Mo) (p : Int) : Bool := match M.at p with
  | some x => !x.ws.isEmpty
  | none => false
/-- An item in new memory is told; none of the relay's blocks is among it. -/
def PullP (lo : Nat) (ow : Ow) (w : World) (b : Nat) (M : Mo) (y : It) (ok : Bool) (e : Ending) (w' : World) : Prop := ∃ A n c ow', e = .returned (.tuple #[.agg #[.string y.tp, .int .i64 y.fr, .int .i64 y.nu, .bool y.tx, .slice A n c], .bool ok]) ∧ BS w' A n c y.bs ∧ w'.ownsRow w.heap.size 5 1 (.slice A n c) n (bc y.bs) ∧
  RL lo ow' b M w' ∧ Ext w ow ow' ∧ Part (All ow) w w' ∧ ∀ a, A = some a → ow' a.block = none
section
variable {lo : Nat} {ow : Ow} {R : Gr} {W : World}
/-- Beside what the relay does not hold: new blocks of this call's are written. -/
theorem RA.news (h : RA lo ow R W) {W1 W2 : World} {B : Nat} (hb : Below W.heap.size W W1) (hp : Below W.heap.size W1 W2) : RA lo ow R W2 := h.step (hb.trans hp)

set_option maxHeartbeats 8000000 in
set_option maxRecDepth 1000000 in
theorem Pull_any (h : RA lo ow R W) {p : Int} (hp : (Lit.int .i64 p).wf = true) :
    Calls Try.prog 27 #[ptr R.b, .int .i64 p] W fun e w' => PullP lo ow W R.b (pullM R.mo p) (pullI R.mo p) (pullB R.mo p) e w' := by
  have hB1 := below_lay W (.cells #[.string ⟨#[]⟩, .int .i64 0, .int .i64 0, .bool false, .slice none 0 0] 49)
  have h1 := h.step hB1
  have K := keep (member_any h1 hp)
  have hj := R.js_at p
  have hat := R.at_mo p
  have HZ := keep (show IB (W.alloc (.cells #[.string ⟨#[]⟩, .int .i64 0, .int .i64 0, .bool false, .slice none 0 0] 49)) W.heap.size ivZ from heap_alloc_new W _)
  obtain ⟨f0, f1, f2, f3z, f4⟩ := HZ.out.fz
  obtain ⟨z0, z1, z2, z3, z4⟩ := HZ.out.c0
  have hno : (∀ x, R.mo.at p = some x → x.ws = []) → pullI R.mo p = itZ ∧ pullB R.mo p = false ∧ pullM R.mo p = R.mo := fun hw => by
    unfold pullI pullB pullM
    cases hm : R.mo.at p with
    | none => exact ⟨rfl, rfl, rfl⟩
    | some x =>
      have h0 := hw x hm
      dsimp only
      rw [h0]
      refine ⟨rfl, rfl, ?_⟩
      have : putN R.mo.P p.toNat (some { x with ws := List.drop 1 [] }) = R.mo.P := putN_self (by
        unfold Mo.at at hm
        split at hm
        · rw [hm]
          congr 1
          cases x
          dsimp only at h0 ⊢
          rw [h0]
          rfl
        · cases hm)
      rw [this]
  have HNo := keep (show ∀ w', Below W.heap.size W w' → (∀ x, R.mo.at p = some x → x.ws = []) → PullP lo ow W R.b (pullM R.mo p) (pullI R.mo p) (pullB R.mo p) (.returned (.tuple #[.agg ivZ.cells.toArray, .bool false])) w' from fun w' hb hw => by
    obtain ⟨e1, e2, e3⟩ := hno hw
    rw [e1, e2, e3]
    exact ⟨none, 0, 0, ow, rfl, BS.nil _, ⟨rfl, .inl ⟨rfl, rfl⟩⟩, h.rl.step hb, Ext.refl W ow, Part.of_below _ hb, fun a ha => (by cases ha)⟩)
  cases hm : R.at p with
  | none =>
    rw [hm] at hj hat
    rw [hj] at K
    dsimp only [Option.map, Option.getD] at K
    have HN := keep (HNo.out _ hB1 (fun x hx => by rw [hat] at hx; cases hx))
    clear h h1 hp hj hat hm hno HNo hB1 z0 z1 z2 z3 z4
    unfold ptr at K ⊢
    go_enter Try.func27, Try.ntmps27
    go_wp2_with (go_at_call 36; refine K.out.mono ?_; rintro e w2 ⟨rfl, rfl⟩)
    exact bodyPost_ret (ret_item (p := 4) (u := 5) rfl _ _ W.heap.size ivZ rfl HZ.out) rfl HN.out
  | some m =>
    obtain ⟨a1, a2, a3, a4, a5, a6⟩ := h.at_ms hm
    rw [hm] at hj hat
    rw [hj] at K
    dsimp only [Option.map, Option.getD] at K hat
    have q1 := a3.step hB1
    have hvl := a3.vlen
    have hwl := a3.wl
    by_cases hw : m.ws = []
    · have d1 : (W.alloc (.cells #[.string ⟨#[]⟩, .int .i64 0, .int .i64 0, .bool false, .slice none 0 0] 49)).cell? ⟨m.b, 1, none⟩ = some (.slice m.v.1 0 m.v.2.2) := by
        have := q1.c0.2.1
        unfold Gm.sl at this
        rw [hvl, hw] at this
        exact this
      have HN := keep (HNo.out _ hB1 (fun x hx => by rw [hat] at hx; injection hx with hx; rw [← hx]; unfold Gm.pt; dsimp only; rw [hw]; rfl))
      clear h h1 hp hj hat hm hno HNo hB1 z0 z1 z2 z3 z4 a1 a2 a3 a4 a5 a6 q1 hvl hwl hw
      unfold ptr at K ⊢
      go_enter Try.func27, Try.ntmps27
      go_wp2_with (go_at_call 36; refine K.out.mono ?_; rintro e w2 ⟨rfl, rfl⟩)
      exact bodyPost_ret (ret_item (p := 4) (u := 5) rfl _ _ W.heap.size ivZ rfl HZ.out) rfl HN.out
    · obtain ⟨y, r, hyr⟩ : ∃ y r, m.ws = y :: r := by
        cases hq : m.ws with
        | nil => exact absurd hq hw
        | cons y r => exact ⟨y, r, rfl⟩
      obtain ⟨g, hg, hir, hgn, hgl, hgm⟩ := q1.ir hw
      have hgo : ow g = some (.wt p.toNat) := a3.ov ⟨g, 0, none⟩ hg
      have hy0 : m.ws[0]? = some y := by rw [hyr]; rfl
      obtain ⟨g0, g1, g2, g3, g4⟩ := hir.at_ hy0
      have hyv := a3.iv y (by rw [hyr]; exact List.mem_cons_self ..)
      obtain ⟨n1, hn1⟩ : ∃ n1, m.v.2.1 = n1 + 1 := ⟨r.length, by rw [hvl, hyr]; rfl⟩
      have hptw : m.pt.ws = y.it :: r.map Iv.it := by unfold Gm.pt; dsimp only; rw [hyr]; rfl
      have eI : pullI R.mo p = y.it := by unfold pullI; rw [hat]; dsimp only; rw [hptw]; rfl
      have eB : pullB R.mo p = true := by unfold pullB; rw [hat]; dsimp only; rw [hptw]; rfl
      have eM : pullM R.mo p = { R.mo with P := putN R.mo.P p.toNat (some { m.pt with ws := r.map Iv.it }) } := by unfold pullM; rw [hat]; dsimp only; rw [hptw]; rfl
      rw [eI, eB, eM]
      obtain ⟨yt, yf, yn, yx, ⟨y1, y2, y3⟩, yb⟩ := y
      dsimp only [Iv.it] at g0 g1 g2 g3 g4 hyv ⊢
      rw [Nat.zero_mul] at g0
      rw [Nat.zero_mul, Nat.zero_add] at g1 g2 g3 g4
      have b2 := below_lay (W.alloc (.cells #[.string ⟨#[]⟩, .int .i64 0, .int .i64 0, .bool false, .slice none 0 0] 49)) (.cells #[.string yt, .int .i64 yf, .int .i64 yn, .bool yx, .slice y1 y2 y3] 49)
      have b3 := hB1.trans (b2.mono hB1.size)
      have s1_ : (W.alloc (.cells #[.string ⟨#[]⟩, .int .i64 0, .int .i64 0, .bool false, .slice none 0 0] 49)).heap.size = W.heap.size + 1 := by simp
      have q2 := a3.step b3
      have o2 := h.ok.step b3.size
      have ir2 := hir.of (b2.block g hir.lt)
      have KD := Delete_one g m.v.2.1 m.v.2.2 0 m.ws ((W.alloc (.cells #[.string ⟨#[]⟩, .int .i64 0, .int .i64 0, .bool false, .slice none 0 0] 49)).alloc (.cells #[.string yt, .int .i64 yf, .int .i64 yn, .bool yx, .slice y1 y2 y3] 49)) ir2 hgn (by omega) (by omega)
      have HD2 := keep (show ∀ w3, IR g m.v.2.2 (m.ws.eraseIdx 0) w3 → Part (fun k => k = g) ((W.alloc (.cells #[.string ⟨#[]⟩, .int .i64 0, .int .i64 0, .bool false, .slice none 0 0] 49)).alloc (.cells #[.string yt, .int .i64 yf, .int .i64 yn, .bool yx, .slice y1 y2 y3] 49)) w3 → (w3.cell? ⟨m.b, 1, none⟩ = some (.slice (some ⟨g, 0, none⟩) m.v.2.1 m.v.2.2) ∧ w3.frozen? ⟨m.b, 1, none⟩ = false) ∧ IB (w3.setCell ⟨m.b, 1, none⟩ (.slice (some ⟨g, 0, none⟩) n1 m.v.2.2)) W.heap.size ivZ ∧ IB (w3.setCell ⟨m.b, 1, none⟩ (.slice (some ⟨g, 0, none⟩) n1 m.v.2.2)) (W.heap.size + 1) ⟨yt, yf, yn, yx, (y1, y2, y3), yb⟩ ∧ BS (w3.setCell ⟨m.b, 1, none⟩ (.slice (some ⟨g, 0, none⟩) n1 m.v.2.2)) y1 y2 y3 yb ∧ ∃ ow', (ow' W.heap.size = none ∧ ow' (W.heap.size + 1) = none) ∧ RL lo ow' R.b { R.mo with P := putN R.mo.P p.toNat (some { m.pt with ws := r.map Iv.it }) } (w3.setCell ⟨m.b, 1, none⟩ (.slice (some ⟨g, 0, none⟩) n1 m.v.2.2)) ∧ Ext W ow ow' ∧ Part (All ow) W (w3.setCell ⟨m.b, 1, none⟩ (.slice (some ⟨g, 0, none⟩) n1 m.v.2.2)) from fun w3 hr hpt => by
        have hbw : ow W.heap.size = none := h.ok.free (Nat.le_refl _)
        have hbw1 : ow (W.heap.size + 1) = none := h.ok.free (Nat.le_succ _)
        have hel : (m.ws.eraseIdx 0).length = n1 := by rw [hyr]; show r.length = n1; have := congrArg List.length hyr; simp at this; omega
        obtain ⟨s1, s2, s3, s4⟩ := q2.wait o2 (W1 := w3) (A := some ⟨g, 0, none⟩) (k := n1) (c := m.v.2.2) (ws := m.ws.eraseIdx 0) hel.symm (hpt.mono fun k hk => ⟨_, hg, hk⟩) (hr.own hel.symm hgl hgm) (fun a ha => .inl (hg.trans ha)) (fun z hz => q2.iv z (List.mem_of_mem_eraseIdx hz)) (by omega)
        have hb3 : w3.heap[m.b]? = some (.cells #[.map (some m.k), m.sl, .int .i64 m.lost] 79 (0, 0)) := (hpt.block m.b q2.lt (tag_ne q2.ob hgo (by simp))).trans q2.hd
        have hsl : m.sl = .slice (some ⟨g, 0, none⟩) m.v.2.1 m.v.2.2 := by unfold Gm.sl; rw [hg]
        have hsz : W.heap.size + 1 < ((W.alloc (.cells #[.string ⟨#[]⟩, .int .i64 0, .int .i64 0, .bool false, .slice none 0 0] 49)).alloc (.cells #[.string yt, .int .i64 yf, .int .i64 yn, .bool yx, .slice y1 y2 y3] 49)).heap.size := Nat.lt_of_lt_of_le (Nat.lt_succ_self _) (Nat.le_of_eq (show W.heap.size + 2 = ((W.alloc (.cells #[.string ⟨#[]⟩, .int .i64 0, .int .i64 0, .bool false, .slice none 0 0] 49)).alloc (.cells #[.string yt, .int .i64 yf, .int .i64 yn, .bool yx, .slice y1 y2 y3] 49)).heap.size by simp))
        have hZ2 : ((W.alloc (.cells #[.string ⟨#[]⟩, .int .i64 0, .int .i64 0, .bool false, .slice none 0 0] 49)).alloc (.cells #[.string yt, .int .i64 yf, .int .i64 yn, .bool yx, .slice y1 y2 y3] 49)).heap[W.heap.size]? = some (.cells #[.string ⟨#[]⟩, .int .i64 0, .int .i64 0, .bool false, .slice none 0 0] 49 (0, 0)) := (b2.block W.heap.size (by omega)).trans HZ.out
        have hY2 : ((W.alloc (.cells #[.string ⟨#[]⟩, .int .i64 0, .int .i64 0, .bool false, .slice none 0 0] 49)).alloc (.cells #[.string yt, .int .i64 yf, .int .i64 yn, .bool yx, .slice y1 y2 y3] 49)).heap[W.heap.size + 1]? = some (.cells #[.string yt, .int .i64 yf, .int .i64 yn, .bool yx, .slice y1 y2 y3] 49 (0, 0)) := by
          have := heap_alloc_new (W.alloc (.cells #[.string ⟨#[]⟩, .int .i64 0, .int .i64 0, .bool false, .slice none 0 0] 49)) (.cells #[.string yt, .int .i64 yf, .int .i64 yn, .bool yx, .slice y1 y2 y3] 49)
          rw [s1_] at this
          exact this
        have nof : ∀ {k : Nat}, ow k = none → ¬ Of ow p.toNat k := fun hk ⟨t, ht, _⟩ => by rw [hk] at ht; cases ht
        have hp5 : Part (Of ow p.toNat) W (w3.setCell ⟨m.b, 1, none⟩ (.slice (some ⟨g, 0, none⟩) n1 m.v.2.2)) := (Part.of_below (Of ow p.toNat) b3).trans s4 fun i hi => .inl hi
        have hext : Ext W ow (owA ow p.toNat (some ⟨g, 0, none⟩)) := fun k hk => s3 k (Nat.lt_of_lt_of_le hk b3.size)
        have hel2 : (m.ws.eraseIdx 0).map Iv.it = r.map Iv.it := by rw [hyr]; rfl
        obtain ⟨z1, z2⟩ := h.turn2 a2 s1 s2 hext hp5 rfl (by unfold Gm.pt; dsimp only; rw [List.length_map]; omega) a6
        have hpe : Gm.pt { m with v := (some ⟨g, 0, none⟩, n1, m.v.2.2), ws := m.ws.eraseIdx 0 } = { m.pt with ws := r.map Iv.it } := by unfold Gm.pt; dsimp only; rw [hel2]
        rw [hpe] at z1
        have hgl2 : g < W.heap.size := h.ok.hi g _ hgo
        have hq1 : Part (fun k => k = m.b) w3 (w3.setCell ⟨m.b, 1, none⟩ (.slice (some ⟨g, 0, none⟩) n1 m.v.2.2)) := part_one w3 m.b 1 _ rfl
        have hmb := a3.lt
        have keepZ : ∀ k, k < ((W.alloc (.cells #[.string ⟨#[]⟩, .int .i64 0, .int .i64 0, .bool false, .slice none 0 0] 49)).alloc (.cells #[.string yt, .int .i64 yf, .int .i64 yn, .bool yx, .slice y1 y2 y3] 49)).heap.size → W.heap.size ≤ k → (w3.setCell ⟨m.b, 1, none⟩ (.slice (some ⟨g, 0, none⟩) n1 m.v.2.2)).heap[k]? = ((W.alloc (.cells #[.string ⟨#[]⟩, .int .i64 0, .int .i64 0, .bool false, .slice none 0 0] 49)).alloc (.cells #[.string yt, .int .i64 yf, .int .i64 yn, .bool yx, .slice y1 y2 y3] 49)).heap[k]? := fun k hk hk2 => (hq1.block k (Nat.lt_of_lt_of_le hk hpt.size) (by omega)).trans (hpt.block k hk (by omega))
        refine ⟨⟨(upd_cell hb3 1 m.sl rfl).trans (congrArg some hsl), upd_fz hb3 1⟩, (keepZ _ (by omega) (Nat.le_refl _)).trans hZ2, (keepZ _ hsz (Nat.le_succ _)).trans hY2, ?_, _, ⟨(put_other (by show W.heap.size ≠ g; omega)).trans hbw, (put_other (by show W.heap.size + 1 ≠ g; omega)).trans hbw1⟩, z1, hext, z2⟩
        exact bs_part (hyv.bs.step b3) (s4.mono (S' := fun k => ow k ≠ some .dat) (fun k hk => hk.nd)) (fun a ha hs => hs (hyv.ut a ha).1))
      have KD1 := keep (show Calls Try.prog 44 #[.slice (some ⟨g, 0, none⟩) m.v.2.1 m.v.2.2, .int .i64 0, .int .i64 1] ((W.alloc (.cells #[.string ⟨#[]⟩, .int .i64 0, .int .i64 0, .bool false, .slice none 0 0] 49)).alloc (.cells #[.string yt, .int .i64 yf, .int .i64 yn, .bool yx, .slice y1 y2 y3] 49)) fun e w' => e = .returned (.slice (some ⟨g, 0, none⟩) n1 m.v.2.2) ∧ IR g m.v.2.2 (m.ws.eraseIdx 0) w' ∧ Part (fun i => i = g) ((W.alloc (.cells #[.string ⟨#[]⟩, .int .i64 0, .int .i64 0, .bool false, .slice none 0 0] 49)).alloc (.cells #[.string yt, .int .i64 yf, .int .i64 yn, .bool yx, .slice y1 y2 y3] 49)) w' from by
        have := KD
        rw [hn1] at this ⊢
        exact this)
      have d1 : (W.alloc (.cells #[.string ⟨#[]⟩, .int .i64 0, .int .i64 0, .bool false, .slice none 0 0] 49)).cell? ⟨m.b, 1, none⟩ = some (.slice (some ⟨g, 0, none⟩) m.v.2.1 m.v.2.2) := by
        have := q1.c0.2.1
        unfold Gm.sl at this
        rw [hg] at this
        exact this
      have d1' : ((W.alloc (.cells #[.string ⟨#[]⟩, .int .i64 0, .int .i64 0, .bool false, .slice none 0 0] 49)).alloc (.cells #[.string yt, .int .i64 yf, .int .i64 yn, .bool yx, .slice y1 y2 y3] 49)).cell? ⟨m.b, 1, none⟩ = some (.slice (some ⟨g, 0, none⟩) m.v.2.1 m.v.2.2) := by
        have := q2.c0.2.1
        unfold Gm.sl at this
        rw [hg] at this
        exact this
      have hcl := hyv.le
      have hln := hyv.bs.len
      dsimp only at hcl hln
      have HLN := keep (show y2 ≤ 100000 by omega)
      have hn1I : (0 : Int) < (m.v.2.1 : Int) := by omega
      have hn1E : ((m.v.2.1 : Int) == 0) = false := by simp; omega
      obtain ⟨vn, hvn⟩ : ∃ vn, m.v.2.1 = vn := ⟨_, rfl⟩
      rw [hvn] at HD2 KD1 d1 d1' hn1I hn1E
      have hRu := keep (And.intro h.rl hB1.size)
      clear h h1 hp hj hat hm hno HNo hB1 a1 a2 a3 a4 a5 a6 q1 q2 o2 ir2 b2 b3 hvl hwl hw hir hgn hgl hgm hgo hy0 hyv hn1 hptw eI eB eM KD hcl hln hvn hyr hg s1_
      obtain ⟨mb, hmb⟩ : ∃ mb, m.b = mb := ⟨_, rfl⟩
      obtain ⟨vc, hvc⟩ : ∃ vc, m.v.2.2 = vc := ⟨_, rfl⟩
      rw [hmb, hvc] at HD2
      rw [hmb, hvc] at d1 d1'
      rw [hvc] at KD1
      unfold ptr at K ⊢
      rw [hmb] at K
      clear hmb hvc
      go_enter Try.func27, Try.ntmps27
      go_wp2_with (first | (go_at_call 36; refine K.out.mono ?_; rintro e w2 ⟨rfl, rfl⟩))
      refine KD1.out.mono ?_
      rintro e w3 ⟨rfl, hr3, hp3⟩
      obtain ⟨⟨c3, f3⟩, hz, hy, hbs, ow', ⟨t1, t2⟩, hRL, hE, hP⟩ := HD2.out w3 hr3 hp3
      have HY := keep hy
      have HZ4 := keep hz
      have HBS := keep hbs
      have HTT := keep (And.intro t1 t2)
      have HRL := keep (And.intro hRL (And.intro hE hP))
      obtain ⟨y0, y1', y2', y3', y4'⟩ := hy.c0
      dsimp only at y4'
      clear hr3 hp3 hz hy hbs t1 t2 hRL hE hP z0 z1 z2 z3 z4 f0 f1 f2 f3z f4 g0 g1 g2 g3 g4 d1 d1' hn1I hn1E HD2 K KD1 y0 y1' y2' y3' HZ
      go_wp2_with fail
      obtain ⟨W4, hW4⟩ : ∃ W4, w3.setCell ⟨mb, 1, none⟩ (.slice (some ⟨g, 0, none⟩) n1 vc) = W4 := ⟨_, rfl⟩
      rw [hW4] at HY HZ4 HBS HRL ⊢
      clear hW4 y4' c3 f3
      refine (bclone_any y1 y2 y3 yb W4 HBS.out HLN.out).mono ?_
      rintro e w5 ⟨A5, n5, c5, rfl, hbs5, hb5, hbl5, how5⟩
      have HY5 := keep (HY.out.of (hb5.block _ HY.out.lt))
      have HZ5 := keep (HZ4.out.of (hb5.block _ HZ4.out.lt))
      have HYP := keep (HY5.out.put4 (A5, n5, c5))
      dsimp only at HYP
      have ht : ∀ {a b c : World}, Part (fun k => k = W.heap.size ∨ k = W.heap.size + 1) a b → Part (fun k => k = W.heap.size ∨ k = W.heap.size + 1) b c → Part (fun k => k = W.heap.size ∨ k = W.heap.size + 1) a c := fun p q => p.trans q fun i hi => .inl hi
      have hq1 := part_one (S := fun k => k = W.heap.size ∨ k = W.heap.size + 1) w5 (W.heap.size + 1) 4 (.slice A5 n5 c5) (.inr rfl)
      have HZP := keep (HZ5.out.of (W := w5.setCell ⟨W.heap.size + 1, 4, none⟩ (.slice A5 n5 c5)) ((part_one (S := fun k => k = W.heap.size + 1) w5 (W.heap.size + 1) 4 (.slice A5 n5 c5) rfl).block _ HZ5.out.lt (by omega)))
      have HRES := keep (HZP.out.laid5 ⟨yt, yf, yn, yx, (A5, n5, c5), yb⟩)
      have hq2 := ht hq1 (part5 (S := fun k => k = W.heap.size ∨ k = W.heap.size + 1) (w5.setCell ⟨W.heap.size + 1, 4, none⟩ (.slice A5 n5 c5)) W.heap.size (.inl rfl) (.string yt) (.int .i64 yf) (.int .i64 yn) (.bool yx) (.slice A5 n5 c5))
      have hq4 : Part (fun k => k = W.heap.size ∨ k = W.heap.size + 1) W4 _ := (Part.of_below _ hb5).trans hq2 fun i hi => .inl hi
      have hlt4 : W.heap.size + 1 < W4.heap.size := HY.out.lt
      have hdat : ∀ a, A5 = some a → ¬ (a.block = W.heap.size ∨ a.block = W.heap.size + 1) := fun a ha e => by have := (hbl5 a ha).1; omega
      have HFIN := keep (And.intro (bs_part hbs5 hq2 hdat) (And.intro (hq2.own how5 (fun k hk e => by
        cases hA : A5 with
        | none => rw [hA] at hk; cases hk
        | some a => rw [hA] at hk; injection hk with hk; exact hdat a hA (by rw [hk]; exact e))) (And.intro (HRL.out.1.beside hq4 (fun k hk => by rcases hk with rfl | rfl; exact HTT.out.1; exact HTT.out.2)) (And.intro HRL.out.2.1 (And.intro (HRL.out.2.2.trans hq4 (fun k hk => .inr (by omega))) (fun a (ha : A5 = some a) => (show ow' a.block = none from by obtain ⟨R9, hR9, _⟩ := HRL.out.1; exact hR9.ok.free (hbl5 a ha).1)))))))
      have HSZ := keep (show W.heap.size ≤ W4.heap.size by omega)
      obtain ⟨p0, p1, p2, p3, p4⟩ := HYP.out.c0
      obtain ⟨k0, k1, k2, k3, k4⟩ := HZP.out.fz
      obtain ⟨v0, v1, v2, v3, v4⟩ := HZP.out.c0
      obtain ⟨_, _, _, _, j4⟩ := HY5.out.fz
      obtain ⟨_, _, _, _, i4⟩ := HY5.out.c0
      dsimp only at p0 p1 p2 p3 p4 i4
      clear hbs5 hb5 hbl5 how5 hq1 hq2 hq4 hlt4 hdat ht
      go_wp2_with fail
      exact bodyPost_ret (ret_item (p := 4) (u := 5) rfl _ _ W.heap.size ⟨yt, yf, yn, yx, (A5, n5, c5), yb⟩ rfl HRES.out) rfl ⟨A5, n5, c5, ow', rfl, HFIN.out.1, own_mono HFIN.out.2.1 HSZ.out, HFIN.out.2.2⟩
end
end Go.Proofs.Ytnbicbnighpkjaa
