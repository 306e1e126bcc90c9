/- KAO of the stage: texts Q11, joined. -/
import Derived.Test.YtffjdknmfmlfnaaKAK
import Derived.Deep.Cut
import Derived.Deep.CutRange
import Derived.Deep.RegionWith
set_option linter.unusedSimpArgs false
set_option linter.unusedVariables false
namespace Go.Proofs.Ytffjdknmfmlfnaa
section
open Go.RowKit Go.Maps

/-- A chunk's block. -/
def ZB (W : World) (g : Nat) (y : CZ) : Prop := W.heap[g]? = some (.cells y.cells.toArray 45 (0, 0))
theorem ZB.at_ {W : World} {g : Nat} {y : CZ} (h : ZB W g y) (j : Nat) (v : Value) (hv : y.cells[j]? = some v) : W.cell? ⟨g, j, none⟩ = some v := by
  rw [cell_of_row _ _ _ _ _ _ h]
  simpa using hv
theorem ZB.fz {W : World} {g : Nat} {y : CZ} (h : ZB W g y) (j : Nat) : W.frozen? ⟨g, j, none⟩ = false := upd_fz h j
theorem ZB.step {W W' : World} {g : Nat} {y : CZ} (h : ZB W g y) (hb : Below W.heap.size W W') : ZB W' g y := (hb.block _ (Array.getElem?_eq_some_iff.1 h).1).trans h
theorem ZB.set {W : World} {g : Nat} {y y' : CZ} (h : ZB W g y) (j : Nat) (v : Value) (he : y.cells.toArray.setIfInBounds j v = y'.cells.toArray) : ZB (W.setCell ⟨g, j, none⟩ v) g y' := by
  have := heap_setCell_same W g j _ _ v h
  rw [he] at this
  exact this
theorem ZB.all {W : World} {g : Nat} {y : CZ} (h : ZB W g y) :
    (W.cell? ⟨g, 0, none⟩ = some (.int .u8 y.kd) ∧ W.cell? ⟨g, 1, none⟩ = some (.int .u8 y.fl) ∧ W.cell? ⟨g, 2, none⟩ = some (.int .u32 y.a) ∧ W.cell? ⟨g, 3, none⟩ = some (.int .u32 y.b) ∧ W.cell? ⟨g, 4, none⟩ = some (.int .u16 y.ou) ∧ W.cell? ⟨g, 5, none⟩ = some (.int .u16 y.si) ∧ W.cell? ⟨g, 6, none⟩ = some (.int .u32 y.pp)) ∧
      W.cell? ⟨g, 7, none⟩ = some (.slice y.bl.1 y.bl.2.1 y.bl.2.2) ∧ W.cell? ⟨g, 8, none⟩ = some (.slice y.du.1 y.du.2.1 y.du.2.2) ∧ W.cell? ⟨g, 9, none⟩ = some (.slice y.sk.1 y.sk.2.1 y.sk.2.2) ∧ W.cell? ⟨g, 10, none⟩ = some (.slice y.pr.1 y.pr.2.1 y.pr.2.2) ∧ W.cell? ⟨g, 11, none⟩ = some (.slice y.da.1 y.da.2.1 y.da.2.2) :=
  ⟨⟨h.at_ 0 _ rfl, h.at_ 1 _ rfl, h.at_ 2 _ rfl, h.at_ 3 _ rfl, h.at_ 4 _ rfl, h.at_ 5 _ rfl, h.at_ 6 _ rfl⟩, h.at_ 7 _ rfl, h.at_ 8 _ rfl, h.at_ 9 _ rfl, h.at_ 10 _ rfl, h.at_ 11 _ rfl⟩
theorem ZB.fzs {W : World} {g : Nat} {y : CZ} (h : ZB W g y) : W.frozen? ⟨g, 7, none⟩ = false ∧ W.frozen? ⟨g, 8, none⟩ = false ∧ W.frozen? ⟨g, 9, none⟩ = false ∧ W.frozen? ⟨g, 10, none⟩ = false ∧ W.frozen? ⟨g, 11, none⟩ = false := ⟨h.fz 7, h.fz 8, h.fz 9, h.fz 10, h.fz 11⟩
theorem ZB.laid {w : World} {g : Nat} {cs : Array Value} (hs : cs.size = 12) (h : w.heap[g]? = some (.cells cs 45 (0, 0))) (z : CZ) : ZB (World.setCell (World.setCell (World.setCell (World.setCell (World.setCell (World.setCell (World.setCell (World.setCell (World.setCell (World.setCell (World.setCell (World.setCell w ⟨g, 0, none⟩ (Value.int .u8 z.kd)) ⟨g, 1, none⟩ (Value.int .u8 z.fl)) ⟨g, 2, none⟩ (Value.int .u32 z.a)) ⟨g, 3, none⟩ (Value.int .u32 z.b)) ⟨g, 4, none⟩ (Value.int .u16 z.ou)) ⟨g, 5, none⟩ (Value.int .u16 z.si)) ⟨g, 6, none⟩ (Value.int .u32 z.pp)) ⟨g, 7, none⟩ (Value.slice z.bl.1 z.bl.2.1 z.bl.2.2)) ⟨g, 8, none⟩ (Value.slice z.du.1 z.du.2.1 z.du.2.2)) ⟨g, 9, none⟩ (Value.slice z.sk.1 z.sk.2.1 z.sk.2.2)) ⟨g, 10, none⟩ (Value.slice z.pr.1 z.pr.2.1 z.pr.2.2)) ⟨g, 11, none⟩ (Value.slice z.da.1 z.da.2.1 z.da.2.2)) g z := by
  obtain ⟨l⟩ := cs
  match l, hs with
  | [a0, a1, a2, a3, a4, a5, a6, a7, a8, a9, a10, a11], _ =>
    have h0 := heap_setCell_same _ g 0 _ _ (Value.int .u8 z.kd) h
    simp only [List.setIfInBounds_toArray, List.set_cons_zero] at h0
    have h1 := heap_setCell_same _ g 1 _ _ (Value.int .u8 z.fl) h0
    simp only [List.setIfInBounds_toArray, List.set_cons_zero, List.set_cons_succ] at h1
    have h2 := heap_setCell_same _ g 2 _ _ (Value.int .u32 z.a) h1
    simp only [List.setIfInBounds_toArray, List.set_cons_zero, List.set_cons_succ] at h2
    have h3 := heap_setCell_same _ g 3 _ _ (Value.int .u32 z.b) h2
    simp only [List.setIfInBounds_toArray, List.set_cons_zero, List.set_cons_succ] at h3
    have h4 := heap_setCell_same _ g 4 _ _ (Value.int .u16 z.ou) h3
    simp only [List.setIfInBounds_toArray, List.set_cons_zero, List.set_cons_succ] at h4
    have h5 := heap_setCell_same _ g 5 _ _ (Value.int .u16 z.si) h4
    simp only [List.setIfInBounds_toArray, List.set_cons_zero, List.set_cons_succ] at h5
    have h6 := heap_setCell_same _ g 6 _ _ (Value.int .u32 z.pp) h5
    simp only [List.setIfInBounds_toArray, List.set_cons_zero, List.set_cons_succ] at h6
    have h7 := heap_setCell_same _ g 7 _ _ (Value.slice z.bl.1 z.bl.2.1 z.bl.2.2) h6
    simp only [List.setIfInBounds_toArray, List.set_cons_zero, List.set_cons_succ] at h7
    have h8 := heap_setCell_same _ g 8 _ _ (Value.slice z.du.1 z.du.2.1 z.du.2.2) h7
    simp only [List.setIfInBounds_toArray, List.set_cons_zero, List.set_cons_succ] at h8
    have h9 := heap_setCell_same _ g 9 _ _ (Value.slice z.sk.1 z.sk.2.1 z.sk.2.2) h8
    simp only [List.setIfInBounds_toArray, List.set_cons_zero, List.set_cons_succ] at h9
    have h10 := heap_setCell_same _ g 10 _ _ (Value.slice z.pr.1 z.pr.2.1 z.pr.2.2) h9
    simp only [List.setIfInBounds_toArray, List.set_cons_zero, List.set_cons_succ] at h10
    have h11 := heap_setCell_same _ g 11 _ _ (Value.slice z.da.1 z.da.2.1 z.da.2.2) h10
    simp only [List.setIfInBounds_toArray, List.set_cons_zero, List.set_cons_succ] at h11
    exact h11
theorem ZB.under {a w : World} {B g : Nat} (h : Below B a w) (hg : B ≤ g) (z : CZ) : Below B a (World.setCell (World.setCell (World.setCell (World.setCell (World.setCell (World.setCell (World.setCell (World.setCell (World.setCell (World.setCell (World.setCell (World.setCell w ⟨g, 0, none⟩ (Value.int .u8 z.kd)) ⟨g, 1, none⟩ (Value.int .u8 z.fl)) ⟨g, 2, none⟩ (Value.int .u32 z.a)) ⟨g, 3, none⟩ (Value.int .u32 z.b)) ⟨g, 4, none⟩ (Value.int .u16 z.ou)) ⟨g, 5, none⟩ (Value.int .u16 z.si)) ⟨g, 6, none⟩ (Value.int .u32 z.pp)) ⟨g, 7, none⟩ (Value.slice z.bl.1 z.bl.2.1 z.bl.2.2)) ⟨g, 8, none⟩ (Value.slice z.du.1 z.du.2.1 z.du.2.2)) ⟨g, 9, none⟩ (Value.slice z.sk.1 z.sk.2.1 z.sk.2.2)) ⟨g, 10, none⟩ (Value.slice z.pr.1 z.pr.2.1 z.pr.2.2)) ⟨g, 11, none⟩ (Value.slice z.da.1 z.da.2.1 z.da.2.2)) := (Below.setCell (Below.setCell (Below.setCell (Below.setCell (Below.setCell (Below.setCell (Below.setCell (Below.setCell (Below.setCell (Below.setCell (Below.setCell (Below.setCell h (p := ⟨g, 0, none⟩) hg (Value.int .u8 z.kd)) (p := ⟨g, 1, none⟩) hg (Value.int .u8 z.fl)) (p := ⟨g, 2, none⟩) hg (Value.int .u32 z.a)) (p := ⟨g, 3, none⟩) hg (Value.int .u32 z.b)) (p := ⟨g, 4, none⟩) hg (Value.int .u16 z.ou)) (p := ⟨g, 5, none⟩) hg (Value.int .u16 z.si)) (p := ⟨g, 6, none⟩) hg (Value.int .u32 z.pp)) (p := ⟨g, 7, none⟩) hg (Value.slice z.bl.1 z.bl.2.1 z.bl.2.2)) (p := ⟨g, 8, none⟩) hg (Value.slice z.du.1 z.du.2.1 z.du.2.2)) (p := ⟨g, 9, none⟩) hg (Value.slice z.sk.1 z.sk.2.1 z.sk.2.2)) (p := ⟨g, 10, none⟩) hg (Value.slice z.pr.1 z.pr.2.1 z.pr.2.2)) (p := ⟨g, 11, none⟩) hg (Value.slice z.da.1 z.da.2.1 z.da.2.2))
theorem ZB.part (w : World) (g : Nat) (z : CZ) : Part (fun i => i = g) w (World.setCell (World.setCell (World.setCell (World.setCell (World.setCell (World.setCell (World.setCell (World.setCell (World.setCell (World.setCell (World.setCell (World.setCell w ⟨g, 0, none⟩ (Value.int .u8 z.kd)) ⟨g, 1, none⟩ (Value.int .u8 z.fl)) ⟨g, 2, none⟩ (Value.int .u32 z.a)) ⟨g, 3, none⟩ (Value.int .u32 z.b)) ⟨g, 4, none⟩ (Value.int .u16 z.ou)) ⟨g, 5, none⟩ (Value.int .u16 z.si)) ⟨g, 6, none⟩ (Value.int .u32 z.pp)) ⟨g, 7, none⟩ (Value.slice z.bl.1 z.bl.2.1 z.bl.2.2)) ⟨g, 8, none⟩ (Value.slice z.du.1 z.du.2.1 z.du.2.2)) ⟨g, 9, none⟩ (Value.slice z.sk.1 z.sk.2.1 z.sk.2.2)) ⟨g, 10, none⟩ (Value.slice z.pr.1 z.pr.2.1 z.pr.2.2)) ⟨g, 11, none⟩ (Value.slice z.da.1 z.da.2.1 z.da.2.2)) := (Part.setCell (Part.setCell (Part.setCell (Part.setCell (Part.setCell (Part.setCell (Part.setCell (Part.setCell (Part.setCell (Part.setCell (Part.setCell (Part.setCell (Part.refl (fun i => i = g) w) (p := ⟨g, 0, none⟩) (.inl rfl) (Value.int .u8 z.kd)) (p := ⟨g, 1, none⟩) (.inl rfl) (Value.int .u8 z.fl)) (p := ⟨g, 2, none⟩) (.inl rfl) (Value.int .u32 z.a)) (p := ⟨g, 3, none⟩) (.inl rfl) (Value.int .u32 z.b)) (p := ⟨g, 4, none⟩) (.inl rfl) (Value.int .u16 z.ou)) (p := ⟨g, 5, none⟩) (.inl rfl) (Value.int .u16 z.si)) (p := ⟨g, 6, none⟩) (.inl rfl) (Value.int .u32 z.pp)) (p := ⟨g, 7, none⟩) (.inl rfl) (Value.slice z.bl.1 z.bl.2.1 z.bl.2.2)) (p := ⟨g, 8, none⟩) (.inl rfl) (Value.slice z.du.1 z.du.2.1 z.du.2.2)) (p := ⟨g, 9, none⟩) (.inl rfl) (Value.slice z.sk.1 z.sk.2.1 z.sk.2.2)) (p := ⟨g, 10, none⟩) (.inl rfl) (Value.slice z.pr.1 z.pr.2.1 z.pr.2.2)) (p := ⟨g, 11, none⟩) (.inl rfl) (Value.slice z.da.1 z.da.2.1 z.da.2.2))
theorem zchunk_size : (Try.prog.info? 45).map (·.size) = some 12 := by kernel_rfl
theorem ret_zchunk {fn : Func} {p : Tmp} (hr : fn.results = #[.cell p 45]) (tmps : Array Value) (w : World) (g : Nat) (x : CZ) (hp : tmps.getD p undef = .pointer (some ⟨g, 0, none⟩)) (h : ZB w g x) : (results fn tmps).run Try.prog w = .ok (.agg x.cells.toArray) w :=
  results_cell_row hr tmps w g _ x.cells.toArray (0, 0) _ hp h Try.underlying45 rfl zchunk_size
def zZero : CZ := ⟨0, 0, 0, 0, 0, 0, 0, (none, 0, 0), (none, 0, 0), (none, 0, 0), (none, 0, 0), (none, 0, 0), [], [], [], [], []⟩
/-- What copied hands back. -/
def CopP (w : World) (x : CZ) (e : Ending) (w' : World) : Prop :=
  ∃ y, e = .returned (.agg y.cells.toArray) ∧ y.ct = x.ct ∧ y.da.2.1 = x.da.2.1 ∧ ZV w' y ∧ Sm y ∧ (∀ p ∈ y.ads, InF (fun k => w.heap.size ≤ k ∧ k < w'.heap.size) p) ∧ w'.ownsRow w.heap.size 5 1 (.slice y.da.1 y.da.2.1 y.da.2.2) y.da.2.1 (bc y.bs) ∧ Below w.heap.size w w'
/-- Behind the first row of copies. -/
structure Co1 (w : World) (x y : CZ) (W : World) : Prop where
  below : Below w.heap.size w W
  b0 : ZB W w.heap.size y
  b1 : ZB W (w.heap.size + 1) zZero
  bl : W.ownsRow (w.heap.size + 2) 96 2 (.slice y.bl.1 y.bl.2.1 y.bl.2.2) y.bl.2.1 (flatF blC x.bls)
  du : W.ownsRow (w.heap.size + 2) 22 1 (.slice y.du.1 y.du.2.1 y.du.2.2) y.du.2.1 (flatF duC x.dus)
  sk : W.ownsRow (w.heap.size + 2) 101 2 (.slice y.sk.1 y.sk.2.1 y.sk.2.2) y.sk.2.1 (flatF blC x.sks)
  eq : y = { x with bl := y.bl, du := y.du, sk := y.sk }
/-- The rows of copies: those of params' values for the first j. -/
structure Co3 (w : World) (x y : CZ) (j : Nat) (W : World) : Prop where
  below : Below w.heap.size w W
  b0 : ZB W w.heap.size y
  b1 : ∃ z, ZB W (w.heap.size + 1) z
  bl : W.ownsRow (w.heap.size + 2) 96 2 (.slice y.bl.1 y.bl.2.1 y.bl.2.2) y.bl.2.1 (flatF blC x.bls)
  du : W.ownsRow (w.heap.size + 2) 22 1 (.slice y.du.1 y.du.2.1 y.du.2.2) y.du.2.1 (flatF duC x.dus)
  sk : W.ownsRow (w.heap.size + 2) 101 2 (.slice y.sk.1 y.sk.2.1 y.sk.2.2) y.sk.2.1 (flatF blC x.sks)
  pr : W.ownsRow (w.heap.size + 2) 108 2 (.slice y.pr.1 y.pr.2.1 y.pr.2.2) y.pr.2.1 (flatF PZ.cells y.prs)
  da : W.ownsRow (w.heap.size + 2) 5 1 (.slice y.da.1 y.da.2.1 y.da.2.2) y.da.2.1 (bc x.bs)
  eq : y = { x with bl := y.bl, du := y.du, sk := y.sk, pr := y.pr, da := y.da, prs := y.prs }
  ln : y.prs.length = x.prs.length
  nw : ∀ k p, k < j → y.prs[k]? = some p → (∃ p0, x.prs[k]? = some p0 ∧ p.ct = p0.ct) ∧ p.2.2.1 ≤ 140737488355328 ∧ W.ownsRow (w.heap.size + 2) 5 1 (.slice p.2.1 p.2.2.1 p.2.2.2.1) p.2.2.1 (bc p.2.2.2.2)
  od : ∀ k, j ≤ k → y.prs[k]? = x.prs[k]?
theorem own_kpt {W W' : World} {base : Nat} {e : TypeId} {size m : Nat} {v : Value} {xs : List Value} (h : W.ownsRow base e size v m xs) (k : Kpt (fun i => base ≤ i) W W') : W'.ownsRow base e size v m xs := k.own h fun g hg => (h.lt g hg).1
theorem kpt_box {W : World} {b B j : Nat} {v : Value} (h : b < B) : Kpt (fun i => B ≤ i) W (W.setCell ⟨b, j, none⟩ v) := Kpt.of_part (part_set W b j v) fun k hk e => by omega
theorem own_step {W W' : World} {base : Nat} {e : TypeId} {size n : Nat} {v : Value} {xs : List Value} (h : W.ownsRow base e size v n xs) (hb : Below W.heap.size W W') : W'.ownsRow base e size v n xs := (Kpt.of_below (ok := fun _ => True) hb).own h fun _ _ => trivial
theorem own_n {w : World} {base : Nat} {T : TypeId} {K : Nat} {α : Type} {f : α → List Value} {A : Option Addr} {c : Nat} {l : List α} (h : w.ownsRow base T K (.slice A l.length c) l.length (flatF f l)) : w.ownsRow base T K (.slice (A, l.length, c).1 (A, l.length, c).2.1 (A, l.length, c).2.2) (A, l.length, c).2.1 (flatF f l) := h
theorem own_box {W : World} {b B j : Nat} {v : Value} {e : TypeId} {size m : Nat} {u : Value} {xs : List Value} (h : W.ownsRow B e size u m xs) (hb : b < B) : (W.setCell ⟨b, j, none⟩ v).ownsRow B e size u m xs := own_kpt h (kpt_box hb)
theorem Co1.mk3 {w : World} {x : CZ} {W : World} {A1 : Option Addr} {n1 d1 : Nat} {A2 : Option Addr} {n2 d2 : Nat} {A3 : Option Addr} {n3 d3 : Nat} (hb : Below w.heap.size w W) (h0 : ZB W w.heap.size x) (h1 : ZB W (w.heap.size + 1) zZero)
    (o1 : W.ownsRow (w.heap.size + 2) 96 2 (.slice A1 n1 d1) n1 (flatF blC x.bls)) (o2 : W.ownsRow (w.heap.size + 2) 22 1 (.slice A2 n2 d2) n2 (flatF duC x.dus)) (o3 : W.ownsRow (w.heap.size + 2) 101 2 (.slice A3 n3 d3) n3 (flatF blC x.sks)) :
    Co1 w x { x with bl := (A1, n1, d1), du := (A2, n2, d2), sk := (A3, n3, d3) } (((W.setCell ⟨w.heap.size, 7, none⟩ (.slice A1 n1 d1)).setCell ⟨w.heap.size, 8, none⟩ (.slice A2 n2 d2)).setCell ⟨w.heap.size, 9, none⟩ (.slice A3 n3 d3)) := by
  have k : ∀ (W : World) j (v : Value), Kpt (fun i => w.heap.size + 2 ≤ i) W (W.setCell ⟨w.heap.size, j, none⟩ v) := fun W j v => kpt_box (by omega)
  have kk := ((k W 7 (.slice A1 n1 d1)).trans (k _ 8 (.slice A2 n2 d2))).trans (k _ 9 (.slice A3 n3 d3))
  refine ⟨((hb.setCell (p := ⟨w.heap.size, 7, none⟩) (Nat.le_refl _) _).setCell (p := ⟨w.heap.size, 8, none⟩) (Nat.le_refl _) _).setCell (p := ⟨w.heap.size, 9, none⟩) (Nat.le_refl _) _, ?_, ?_, own_kpt o1 kk, own_kpt o2 kk, own_kpt o3 kk, rfl⟩
  · exact ((h0.set (y' := { x with bl := (A1, n1, d1) }) 7 _ rfl).set (y' := { x with bl := (A1, n1, d1), du := (A2, n2, d2) }) 8 _ rfl).set 9 _ rfl
  · exact set_other (set_other (set_other h1 (by omega)) (by omega)) (by omega)
theorem Co3.mk2 {w : World} {x : CZ} {W : World} {A1 : Option Addr} {n1 d1 : Nat} {A2 : Option Addr} {n2 d2 : Nat} {A3 : Option Addr} {n3 d3 : Nat} {A4 : Option Addr} {n4 d4 : Nat} {A5 : Option Addr} {n5 d5 : Nat} (hb : Below w.heap.size w W) (h0 : ZB W w.heap.size { x with bl := (A1, n1, d1), du := (A2, n2, d2), sk := (A3, n3, d3) }) (h1 : ZB W (w.heap.size + 1) zZero)
    (o1 : W.ownsRow (w.heap.size + 2) 96 2 (.slice A1 n1 d1) n1 (flatF blC x.bls)) (o2 : W.ownsRow (w.heap.size + 2) 22 1 (.slice A2 n2 d2) n2 (flatF duC x.dus)) (o3 : W.ownsRow (w.heap.size + 2) 101 2 (.slice A3 n3 d3) n3 (flatF blC x.sks))
    (o4 : W.ownsRow (w.heap.size + 2) 108 2 (.slice A4 n4 d4) n4 (flatF PZ.cells x.prs)) (o5 : W.ownsRow (w.heap.size + 2) 5 1 (.slice A5 n5 d5) n5 (flatF byC x.bs)) :
    Co3 w x { x with bl := (A1, n1, d1), du := (A2, n2, d2), sk := (A3, n3, d3), pr := (A4, n4, d4), da := (A5, n5, d5) } 0 ((W.setCell ⟨w.heap.size, 10, none⟩ (.slice A4 n4 d4)).setCell ⟨w.heap.size, 11, none⟩ (.slice A5 n5 d5)) := by
  rw [flat_by] at o5
  have k : ∀ (W : World) j (v : Value), Kpt (fun i => w.heap.size + 2 ≤ i) W (W.setCell ⟨w.heap.size, j, none⟩ v) := fun W j v => kpt_box (by omega)
  have kk := (k W 10 (.slice A4 n4 d4)).trans (k _ 11 (.slice A5 n5 d5))
  refine ⟨(hb.setCell (p := ⟨w.heap.size, 10, none⟩) (Nat.le_refl _) _).setCell (p := ⟨w.heap.size, 11, none⟩) (Nat.le_refl _) _, ?_, ?_, own_kpt o1 kk, own_kpt o2 kk, own_kpt o3 kk, own_kpt o4 kk, own_kpt o5 kk, rfl, rfl, fun k p hk => by omega, fun _ _ => rfl⟩
  · exact (h0.set (y' := { x with bl := (A1, n1, d1), du := (A2, n2, d2), sk := (A3, n3, d3), pr := (A4, n4, d4) }) 10 _ rfl).set 11 _ rfl
  · exact ⟨_, set_other (set_other h1 (by omega)) (by omega)⟩
/-! ### One of a row is written -/
theorem flatF_set {α : Type} {f : α → List Value} {K : Nat} (hf : ∀ x, (f x).length = K) {t : Nat} (ht : t < K) {v : Value} : ∀ (l : List α) (j : Nat) (x x' : α), l[j]? = some x → f x' = (f x).set t v → (flatF f l).set (j * K + t) v = flatF f (l.set j x')
  | [], j, x, x', h, _ => by simp at h
  | y :: r, 0, x, x', h, e => by
    simp at h
    subst h
    rw [List.set_cons_zero, Nat.zero_mul, Nat.zero_add]
    simp only [flatF, List.flatMap_cons]
    rw [List.set_append_left _ _ (by rw [hf]; exact ht), e]
  | y :: r, j + 1, x, x', h, e => by
    have := flatF_set hf ht r j x x' (by simpa using h) e
    rw [List.set_cons_succ]
    simp only [flatF, List.flatMap_cons] at this ⊢
    rw [List.set_append_right _ _ (by rw [hf, Nat.add_mul]; omega), hf, show (j + 1) * K + t - K = j * K + t by rw [Nat.add_mul]; omega, this]
theorem own_set {W : World} {base : Nat} {e : TypeId} {K g n c : Nat} {xs : List Value} (h : W.ownsRow base e K (.slice (some ⟨g, 0, none⟩) n c) n xs) (j : Nat) (v : Value) : (W.setCell ⟨g, j, none⟩ v).ownsRow base e K (.slice (some ⟨g, 0, none⟩) n c) n (xs.set j v) := by
  refine ⟨by rw [List.length_set]; exact h.1, ?_⟩
  rcases h.2 with ⟨h0, _⟩ | ⟨g', cap, cur, hv, hb, hg, hnc, hm, hsz, ht⟩
  · cases h0
  · injection hv with hv _ hc
    injection hv with hv
    injection hv with hv
    subst hv hc
    refine .inr ⟨g, c, cur.setIfInBounds j v, rfl, hb, heap_setCell_same W g j _ _ _ hg, hnc, hm, by simpa using hsz, ?_⟩
    rw [Array.toList_setIfInBounds, ← ht, List.take_set]
theorem own_row_at {W : World} {base : Nat} {e : TypeId} {K n c : Nat} {A : Option Addr} {xs : List Value} (h : W.ownsRow base e K (.slice A n c) n xs) (hx : xs ≠ []) : ∃ g, A = some ⟨g, 0, none⟩ ∧ base ≤ g ∧ (∀ j v, xs[j]? = some v → W.cell? ⟨g, j, none⟩ = some v) ∧ (∀ j, W.frozen? ⟨g, j, none⟩ = false) ∧ ∃ cs, W.heap[g]? = some (.cells cs e (0, 0)) := by
  rcases h.2 with ⟨h0, h1⟩ | ⟨g, cap, cur, hv, hb, hg, hnc, hm, hsz, ht⟩
  · have := h.1
    rw [h1, Nat.zero_mul] at this
    exact absurd (List.eq_nil_of_length_eq_zero this) hx
  · injection hv with hv _ hc
    refine ⟨g, hv, hb, fun j v hj => ?_, fun j => upd_fz hg j, cur, hg⟩
    rw [cell_of_row _ _ _ _ _ _ hg]
    rw [← ht] at hj
    rw [List.getElem?_take] at hj
    split at hj
    · simpa using hj
    · cases hj
/-- One more of the params' values is copied. -/
theorem Co3.next {w : World} {x y : CZ} {j : Nat} {W : World} (h : Co3 w x y j W) {p : PZ} (hp : y.prs[j]? = some p) {W' : World} (hb : Below W.heap.size W W') {A : Option Addr} {c : Nat} (ho : W'.ownsRow W.heap.size 5 1 (.slice A p.2.2.2.2.length c) p.2.2.2.2.length (bc p.2.2.2.2)) (hl : p.2.2.2.2.length ≤ 140737488355328) {g : Nat} (hg : y.pr.1 = some ⟨g, 0, none⟩) :
    Co3 w x { y with prs := y.prs.set j (p.1, A, p.2.2.2.2.length, c, p.2.2.2.2) } (j + 1) (W'.setCell ⟨g, j * 2 + 1, none⟩ (.slice A p.2.2.2.2.length c)) := by
  have hpr' := own_step h.pr hb
  have hgb : w.heap.size + 2 ≤ g ∧ g < W'.heap.size := by
    have := hpr'.lt g (by rw [hg]; rfl)
    exact this
  obtain ⟨cur, fr, hcur⟩ := own_cells hpr' (g := g) (by rw [hg]; rfl)
  have hpt := part_set W' g (j * 2 + 1) (.slice A p.2.2.2.2.length c)
  have kp := Kpt.of_part (ok := fun i => ¬ i = g) hpt fun _ h => h
  have hjl : j < y.prs.length := (List.getElem?_eq_some_iff.1 hp).1
  obtain ⟨z, hz⟩ := h.b1
  have hBW : w.heap.size + 2 ≤ W.heap.size := by have := (Array.getElem?_eq_some_iff.1 hz).1; omega
  have other : ∀ {e : TypeId} {K n : Nat} {v : Value} {xs : List Value}, W'.ownsRow (w.heap.size + 2) e K v n xs → e ≠ 108 → (W'.setCell ⟨g, j * 2 + 1, none⟩ (.slice A p.2.2.2.2.length c)).ownsRow (w.heap.size + 2) e K v n xs := fun ho' hne => kp.own ho' fun g' hg' ee => by
    obtain ⟨cu, f2, hcu⟩ := own_cells ho' hg'
    exact cells_cells hcu hcur hne ee
  refine ⟨(h.below.trans (hb.mono h.below.size)).setCell (p := ⟨g, j * 2 + 1, none⟩) (by show w.heap.size ≤ g; omega) _, set_other (h.b0.step hb) (by omega), ⟨z, set_other (hz.step hb) (by omega)⟩, other (own_step h.bl hb) (by decide), other (own_step h.du hb) (by decide), other (own_step h.sk hb) (by decide), ?_, other (own_step h.da hb) (by decide), ?_, by simpa using h.ln, ?_, ?_⟩
  · have h1 := own_set (g := g) (n := y.pr.2.1) (c := y.pr.2.2) (by rw [← hg]; exact hpr') (j * 2 + 1) (.slice A p.2.2.2.2.length c)
    rw [flatF_set (f := PZ.cells) PZ.len (t := 1) (by decide) y.prs j p (p.1, A, p.2.2.2.2.length, c, p.2.2.2.2) hp rfl] at h1
    show World.ownsRow _ _ _ _ (.slice y.pr.1 y.pr.2.1 y.pr.2.2) y.pr.2.1 _
    rw [hg]
    exact h1
  · have := h.eq
    rw [this]
  · intro k q hk hq
    have hq : (y.prs.set j (p.1, A, p.2.2.2.2.length, c, p.2.2.2.2))[k]? = some q := hq
    rw [List.getElem?_set] at hq
    by_cases hjk : j = k
    · subst hjk
      rw [if_pos rfl, if_pos hjl] at hq
      injection hq with hq
      subst hq
      refine ⟨⟨p, by rw [← h.od j (Nat.le_refl _)]; exact hp, rfl⟩, hl, other (own_mono ho hBW) (by decide)⟩
    · rw [if_neg hjk] at hq
      obtain ⟨a1, a2, a3⟩ := h.nw k q (by omega) hq
      exact ⟨a1, a2, other (own_step a3 hb) (by decide)⟩
  · intro k hk
    show (y.prs.set j _)[k]? = _
    rw [List.getElem?_set, if_neg (by omega)]
    exact h.od k (by omega)
theorem own_inf {W : World} {base : Nat} {e : TypeId} {K n c : Nat} {A : Option Addr} {xs : List Value} (h : W.ownsRow base e K (.slice A n c) n xs) : InF (fun k => base ≤ k ∧ k < W.heap.size) A := fun a ea => by
  rw [ea] at h
  exact h.lt a.block rfl
theorem own_bs {W : World} {base n c : Nat} {A : Option Addr} {bs : List UInt8} (h : W.ownsRow base 5 1 (.slice A n c) n (bc bs)) : BS W A n c bs := BS.of_own h
/-- All is copied. -/
theorem Co3.fin {w : World} {x y : CZ} {W : World} (h : Co3 w x y x.prs.length W) (hx : ZV w x) (hs : Sm x) : CopP w x (.returned (.agg y.cells.toArray)) W := by
  have he := h.eq
  have hle : ∀ i, w.heap.size + 2 ≤ i ∧ i < W.heap.size → w.heap.size ≤ i ∧ i < W.heap.size := fun i hi => ⟨by omega, hi.2⟩
  have inf : ∀ {A : Option Addr}, InF (fun k => w.heap.size + 2 ≤ k ∧ k < W.heap.size) A → InF (fun k => w.heap.size ≤ k ∧ k < W.heap.size) A := fun hA a ea => hle _ (hA a ea)
  have e1 : y.bls = x.bls := by rw [he]
  have e2 : y.dus = x.dus := by rw [he]
  have e3 : y.sks = x.sks := by rw [he]
  have e4 : y.bs = x.bs := by rw [he]
  have n1 : ∀ {α : Type} {f : α → List Value} {K : Nat} {T : TypeId} {s : SL} {l : List α}, (∀ x, (f x).length = K) → 0 < K → W.ownsRow (w.heap.size + 2) T K (.slice s.1 s.2.1 s.2.2) s.2.1 (flatF f l) → LR f W s l := fun hf hK ho => LR.of_own hf hK ho
  have hda := own_bs h.da
  have mem : ∀ p ∈ y.prs, ∃ k, k < x.prs.length ∧ y.prs[k]? = some p := fun p hp => by
    obtain ⟨k, hk⟩ := List.getElem?_of_mem hp
    exact ⟨k, by rw [← h.ln]; exact (List.getElem?_eq_some_iff.1 hk).1, hk⟩
  have hct : y.prs.map PZ.ct = x.prs.map PZ.ct := by
    apply List.ext_getElem?
    intro k
    rw [List.getElem?_map, List.getElem?_map]
    by_cases hk : k < x.prs.length
    · have hk' : k < y.prs.length := by rw [h.ln]; exact hk
      obtain ⟨⟨p0, a1, a2⟩, _⟩ := h.nw k _ hk (List.getElem?_eq_getElem hk')
      rw [List.getElem?_eq_getElem hk', a1]
      exact congrArg some a2
    · rw [List.getElem?_eq_none (by rw [h.ln]; omega), List.getElem?_eq_none (by omega)]
  have lbl := n1 blC_len (by decide) h.bl
  have ldu := n1 duC_len (by decide) h.du
  have lsk := n1 blC_len (by decide) h.sk
  have lpr := n1 PZ.len (by decide) h.pr
  refine ⟨y, rfl, ?_, ?_, ⟨?_, ?_, ?_, ?_, ?_, ?_, ?_, by rw [e1]; exact lbl, by rw [e2]; exact ldu, by rw [e3]; exact lsk, lpr, fun p hp => ?_, by rw [e4]; exact hda⟩, ⟨?_, ?_, ?_, ?_, ?_⟩, fun p hp => ?_, ?_, h.below⟩
  · unfold CZ.ct
    rw [hct, he]
  · rw [hda.len, hx.da.len]
  · rw [he]; exact hx.kd
  · rw [he]; exact hx.fl
  · rw [he]; exact hx.a
  · rw [he]; exact hx.b
  · rw [he]; exact hx.ou
  · rw [he]; exact hx.si
  · rw [he]; exact hx.pp
  · obtain ⟨k, hk, hp'⟩ := mem p hp
    obtain ⟨_, a2, a3⟩ := h.nw k p hk hp'
    exact ⟨own_bs a3, a2⟩
  · rw [lbl.1, ← hx.bl.1]; exact hs.bl
  · rw [ldu.1, ← hx.du.1]; exact hs.du
  · rw [lsk.1, ← hx.sk.1]; exact hs.sk
  · rw [lpr.1, h.ln, ← hx.pr.1]; exact hs.pr
  · rw [hda.len, ← hx.da.len]; exact hs.da
  · simp only [CZ.ads, List.mem_append, List.mem_cons, List.not_mem_nil, or_false, List.mem_map] at hp
    rcases hp with (rfl | rfl | rfl | rfl | rfl) | ⟨q, hq, rfl⟩
    · exact inf (own_inf h.bl)
    · exact inf (own_inf h.du)
    · exact inf (own_inf h.sk)
    · exact inf (own_inf h.pr)
    · exact inf (own_inf h.da)
    · obtain ⟨k, hk, hp'⟩ := mem q hq
      obtain ⟨_, _, a3⟩ := h.nw k q hk hp'
      exact inf (own_inf a3)
  · rw [e4]
    exact own_mono h.da (by omega)
theorem Co3.drew {w : World} {x y : CZ} {j : Nat} {W : World} (h : Co3 w x y j W) : Co3 w x y j W.drew := ⟨h.below.drew, h.b0, h.b1, h.bl, h.du, h.sk, h.pr, h.da, h.eq, h.ln, h.nw, h.od⟩
theorem ZB.fz12 {W : World} {g : Nat} {y : CZ} (h : ZB W g y) : (W.frozen? ⟨g, 0, none⟩ = false ∧ W.frozen? ⟨g, 1, none⟩ = false ∧ W.frozen? ⟨g, 2, none⟩ = false ∧ W.frozen? ⟨g, 3, none⟩ = false ∧ W.frozen? ⟨g, 4, none⟩ = false ∧ W.frozen? ⟨g, 5, none⟩ = false) ∧ W.frozen? ⟨g, 6, none⟩ = false ∧ W.frozen? ⟨g, 7, none⟩ = false ∧ W.frozen? ⟨g, 8, none⟩ = false ∧ W.frozen? ⟨g, 9, none⟩ = false ∧ W.frozen? ⟨g, 10, none⟩ = false ∧ W.frozen? ⟨g, 11, none⟩ = false :=
  ⟨⟨h.fz 0, h.fz 1, h.fz 2, h.fz 3, h.fz 4, h.fz 5⟩, h.fz 6, h.fz 7, h.fz 8, h.fz 9, h.fz 10, h.fz 11⟩
/-- The copy is handed back. -/
theorem Co3.ret {w : World} {x y : CZ} {W : World} (h : Co3 w x y x.prs.length W) (hx : ZV w x) (hs : Sm x) :
    ZB (World.setCell (World.setCell (World.setCell (World.setCell (World.setCell (World.setCell (World.setCell (World.setCell (World.setCell (World.setCell (World.setCell (World.setCell W ⟨w.heap.size + 1, 0, none⟩ (Value.int .u8 y.kd)) ⟨w.heap.size + 1, 1, none⟩ (Value.int .u8 y.fl)) ⟨w.heap.size + 1, 2, none⟩ (Value.int .u32 y.a)) ⟨w.heap.size + 1, 3, none⟩ (Value.int .u32 y.b)) ⟨w.heap.size + 1, 4, none⟩ (Value.int .u16 y.ou)) ⟨w.heap.size + 1, 5, none⟩ (Value.int .u16 y.si)) ⟨w.heap.size + 1, 6, none⟩ (Value.int .u32 y.pp)) ⟨w.heap.size + 1, 7, none⟩ (Value.slice y.bl.1 y.bl.2.1 y.bl.2.2)) ⟨w.heap.size + 1, 8, none⟩ (Value.slice y.du.1 y.du.2.1 y.du.2.2)) ⟨w.heap.size + 1, 9, none⟩ (Value.slice y.sk.1 y.sk.2.1 y.sk.2.2)) ⟨w.heap.size + 1, 10, none⟩ (Value.slice y.pr.1 y.pr.2.1 y.pr.2.2)) ⟨w.heap.size + 1, 11, none⟩ (Value.slice y.da.1 y.da.2.1 y.da.2.2)) (w.heap.size + 1) y ∧ CopP w x (.returned (.agg y.cells.toArray)) (World.setCell (World.setCell (World.setCell (World.setCell (World.setCell (World.setCell (World.setCell (World.setCell (World.setCell (World.setCell (World.setCell (World.setCell W ⟨w.heap.size + 1, 0, none⟩ (Value.int .u8 y.kd)) ⟨w.heap.size + 1, 1, none⟩ (Value.int .u8 y.fl)) ⟨w.heap.size + 1, 2, none⟩ (Value.int .u32 y.a)) ⟨w.heap.size + 1, 3, none⟩ (Value.int .u32 y.b)) ⟨w.heap.size + 1, 4, none⟩ (Value.int .u16 y.ou)) ⟨w.heap.size + 1, 5, none⟩ (Value.int .u16 y.si)) ⟨w.heap.size + 1, 6, none⟩ (Value.int .u32 y.pp)) ⟨w.heap.size + 1, 7, none⟩ (Value.slice y.bl.1 y.bl.2.1 y.bl.2.2)) ⟨w.heap.size + 1, 8, none⟩ (Value.slice y.du.1 y.du.2.1 y.du.2.2)) ⟨w.heap.size + 1, 9, none⟩ (Value.slice y.sk.1 y.sk.2.1 y.sk.2.2)) ⟨w.heap.size + 1, 10, none⟩ (Value.slice y.pr.1 y.pr.2.1 y.pr.2.2)) ⟨w.heap.size + 1, 11, none⟩ (Value.slice y.da.1 y.da.2.1 y.da.2.2)) := by
  obtain ⟨z, hz⟩ := h.b1
  have hl := ZB.laid (by rw [List.size_toArray, CZ.len]) hz y
  have kp := Kpt.of_part (ok := fun i => w.heap.size + 2 ≤ i) (ZB.part W (w.heap.size + 1) y) (fun k hk e => by omega)
  have kp0 := Kpt.of_part (ok := fun i => i = w.heap.size) (ZB.part W (w.heap.size + 1) y) (fun k hk e => by omega)
  refine ⟨hl, Co3.fin ⟨ZB.under h.below (Nat.le_succ _) y, kp0.cells _ _ _ _ rfl h.b0, ⟨y, hl⟩, own_kpt h.bl kp, own_kpt h.du kp, own_kpt h.sk kp, own_kpt h.pr kp, own_kpt h.da kp, h.eq, h.ln, fun k p hk hp => ?_, h.od⟩ hx hs⟩
  obtain ⟨a1, a2, a3⟩ := h.nw k p hk hp
  exact ⟨a1, a2, own_kpt a3 kp⟩
end
end Go.Proofs.Ytffjdknmfmlfnaa
