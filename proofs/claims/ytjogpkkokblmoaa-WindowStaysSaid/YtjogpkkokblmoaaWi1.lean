/- Package window: a state as six cells; may it be; start. -/
import Derived.Test.YtjogpkkokblmoaaMem
import Derived.Test.YtjogpkkokblmoaaSer1
import Derived.KernelRfl
import Derived.Laws.ResultCell
import Derived.Laws.Rows
import Derived.Deep.Cut
import Derived.BigQuiet
import Derived.Deep.RegionHeld3
import Derived.Test.YtjogpkkokblmoaaProg
namespace Go.Proofs.Ytjogpkkokblmoaa
open Go.RowKit
set_option linter.unusedVariables false

def inI (l n m : Int) : Bool := decide (l ≤ n ∧ n ≤ m)
theorem inI_iff {l n m : Int} : inI l n m = true ↔ l ≤ n ∧ n ≤ m := by simp [inI]
theorem inI_and (l n m : Int) : (decide (l ≤ n) && decide (n ≤ m)) = inI l n m := by simp [inI]
theorem within_any (l n m : Int) (w : World) :
    Calls Try.prog 16 #[.int .i64 l, .int .i64 n, .int .i64 m] w fun e w' => e = .returned (.bool (inI l n m)) ∧ w = w' := by
  go_enter Try.func16, Try.ntmps16
  go_wp2_with fail
  all_goals go_ret
  all_goals exact ⟨ret_bool (by unfold inI; first | (simp_all; done) | (simp_all; omega)), rfl⟩

structure WS where
  cw : Int
  th : Int
  pa : Int
  mt : Int
  re : Bool
  ex : Int
def WS.cells (s : WS) : Array Value := #[.int .i64 s.cw, .int .i64 s.th, .int .i64 s.pa, .int .i64 s.mt, .bool s.re, .int .u32 s.ex]
def WS.zero : WS := ⟨0, 0, 0, 0, false, 0⟩
theorem St_size : (Try.prog.info? 26).map (·.size) = some 6 := by kernel_rfl
theorem Rf_size : (Try.prog.info? 34).map (·.size) = some 6 := by kernel_rfl
/-- A state's block, by its type. -/
def WB (t : TypeId) (w : World) (g : Nat) (s : WS) : Prop := w.heap[g]? = some (.cells s.cells t (0, 0))
theorem WB.lt {t : TypeId} {w : World} {g : Nat} {s : WS} (h : WB t w g s) : g < w.heap.size := (Array.getElem?_eq_some_iff.1 h).1
theorem WB.at_ {t : TypeId} {w : World} {g : Nat} {s : WS} (h : WB t w g s) (j : Nat) (v : Value) (hv : s.cells[j]? = some v) : w.cell? ⟨g, j, none⟩ = some v := by rw [cell_of_row _ _ _ _ _ _ h]; exact hv
theorem WB.fz {t : TypeId} {w : World} {g : Nat} {s : WS} (h : WB t w g s) (j : Nat) : w.frozen? ⟨g, j, none⟩ = false := frozen_of_row w g j _ _ h
theorem WB.step {t : TypeId} {w w' : World} {g : Nat} {s : WS} (h : WB t w g s) (hb : Below w.heap.size w w') : WB t w' g s := (hb.block g h.lt).trans h
theorem WB.drew {t : TypeId} {w : World} {g : Nat} {s : WS} (h : WB t w g s) : WB t w.drew g s := h
theorem WB.drewN {t : TypeId} {w : World} {g : Nat} {s : WS} (h : WB t w g s) (k : Nat) : WB t (w.drewN k) g s := h
theorem WB.new (t : TypeId) (w : World) (s : WS) : WB t (w.alloc (.cells s.cells t)) w.heap.size s := heap_alloc_new w _
theorem WB.else_ {t : TypeId} {w : World} {g k j : Nat} {s : WS} (h : WB t w g s) (hne : g ≠ k) (v : Value) : WB t (w.setCell ⟨k, j, none⟩ v) g s := (heap_setCell_other w ⟨k, j, none⟩ g v hne).trans h
theorem WB.cw {t : TypeId} {w : World} {g : Nat} {s : WS} (h : WB t w g s) (x : Int) : WB t (w.setCell ⟨g, 0, none⟩ (.int .i64 x)) g { s with cw := x } := heap_setCell_same w g 0 _ _ _ h
theorem WB.th {t : TypeId} {w : World} {g : Nat} {s : WS} (h : WB t w g s) (x : Int) : WB t (w.setCell ⟨g, 1, none⟩ (.int .i64 x)) g { s with th := x } := heap_setCell_same w g 1 _ _ _ h
theorem WB.pa {t : TypeId} {w : World} {g : Nat} {s : WS} (h : WB t w g s) (x : Int) : WB t (w.setCell ⟨g, 2, none⟩ (.int .i64 x)) g { s with pa := x } := heap_setCell_same w g 2 _ _ _ h
theorem WB.mt {t : TypeId} {w : World} {g : Nat} {s : WS} (h : WB t w g s) (x : Int) : WB t (w.setCell ⟨g, 3, none⟩ (.int .i64 x)) g { s with mt := x } := heap_setCell_same w g 3 _ _ _ h
theorem WB.re {t : TypeId} {w : World} {g : Nat} {s : WS} (h : WB t w g s) (x : Bool) : WB t (w.setCell ⟨g, 4, none⟩ (.bool x)) g { s with re := x } := heap_setCell_same w g 4 _ _ _ h
theorem WB.ex {t : TypeId} {w : World} {g : Nat} {s : WS} (h : WB t w g s) (x : Int) : WB t (w.setCell ⟨g, 5, none⟩ (.int .u32 x)) g { s with ex := x } := heap_setCell_same w g 5 _ _ _ h
theorem WB.all {t : TypeId} {w : World} {g : Nat} {s : WS} (h : WB t w g s) :
    (w.cell? ⟨g, 0, none⟩ = some (.int .i64 s.cw) ∧ w.cell? ⟨g, 1, none⟩ = some (.int .i64 s.th) ∧ w.cell? ⟨g, 2, none⟩ = some (.int .i64 s.pa) ∧ w.cell? ⟨g, 3, none⟩ = some (.int .i64 s.mt) ∧ w.cell? ⟨g, 4, none⟩ = some (.bool s.re) ∧ w.cell? ⟨g, 5, none⟩ = some (.int .u32 s.ex)) ∧
    (w.frozen? ⟨g, 0, none⟩ = false ∧ w.frozen? ⟨g, 1, none⟩ = false ∧ w.frozen? ⟨g, 2, none⟩ = false ∧ w.frozen? ⟨g, 3, none⟩ = false ∧ w.frozen? ⟨g, 4, none⟩ = false ∧ w.frozen? ⟨g, 5, none⟩ = false) :=
  ⟨⟨h.at_ 0 _ rfl, h.at_ 1 _ rfl, h.at_ 2 _ rfl, h.at_ 3 _ rfl, h.at_ 4 _ rfl, h.at_ 5 _ rfl⟩, h.fz 0, h.fz 1, h.fz 2, h.fz 3, h.fz 4, h.fz 5⟩
/-- The six cells of a state laid anew. -/
abbrev lay6 (w : World) (g : Nat) (s : WS) : World := (((((w.setCell ⟨g, 0, none⟩ (.int .i64 s.cw)).setCell ⟨g, 1, none⟩ (.int .i64 s.th)).setCell ⟨g, 2, none⟩ (.int .i64 s.pa)).setCell ⟨g, 3, none⟩ (.int .i64 s.mt)).setCell ⟨g, 4, none⟩ (.bool s.re)).setCell ⟨g, 5, none⟩ (.int .u32 s.ex)
theorem laid6 {t : TypeId} {w : World} {g : Nat} {u : WS} (h : WB t w g u) (s : WS) : WB t (lay6 w g s) g s := (((((h.cw s.cw).th s.th).pa s.pa).mt s.mt).re s.re).ex s.ex
theorem below6 {B : Nat} {a w : World} (h : Below B a w) {g : Nat} (hg : B ≤ g) (s : WS) : Below B a (lay6 w g s) :=
  (((((h.setCell (p := ⟨g, 0, none⟩) hg _).setCell (p := ⟨g, 1, none⟩) hg _).setCell (p := ⟨g, 2, none⟩) hg _).setCell (p := ⟨g, 3, none⟩) hg _).setCell (p := ⟨g, 4, none⟩) hg _).setCell (p := ⟨g, 5, none⟩) hg _
theorem else6 {t : TypeId} {w : World} {g k : Nat} {u : WS} (h : WB t w g u) (hne : g ≠ k) (s : WS) : WB t (lay6 w k s) g u :=
  (((((h.else_ hne _).else_ hne _).else_ hne _).else_ hne _).else_ hne _).else_ hne _
/-- A function that hands back the state of its block. -/
theorem ret_st {fn : Func} {p : Tmp} (hr : fn.results = #[.cell p 26]) (tmps : Array Value) (w : World) (g : Nat) (s : WS) (hp : tmps.getD p undef = .pointer (some ⟨g, 0, none⟩)) (h : WB 26 w g s) :
    (results fn tmps).run Try.prog w = .ok (.agg s.cells) w :=
  results_cell_row hr tmps w g _ s.cells (0, 0) _ hp h Try.underlying26 rfl St_size
theorem ret_rf {fn : Func} {p : Tmp} (hr : fn.results = #[.cell p 34]) (tmps : Array Value) (w : World) (g : Nat) (s : WS) (hp : tmps.getD p undef = .pointer (some ⟨g, 0, none⟩)) (h : WB 34 w g s) :
    (results fn tmps).run Try.prog w = .ok (.agg s.cells) w :=
  results_cell_row hr tmps w g _ s.cells (0, 0) _ hp h Try.underlying34 rfl Rf_size
/-- What a call that hands back a state leaves. -/
def StPost (w : World) (s : WS) (e : Ending) (w' : World) : Prop := e = .returned (.agg s.cells) ∧ Below w.heap.size w w'
theorem below_drewN {B : Nat} {a w : World} (h : Below B a w) (k : Nat) : Below B a (w.drewN k) := ⟨h.os, h.tape, h.output, h.size, h.block⟩
theorem wrap_in (x : Int) (h : -9223372036854775808 ≤ x ∧ x ≤ 9223372036854775807) : IntKind.i64.wrap x = x ∧ wrap64 x = x := by
  constructor <;> simp [IntKind.wrap, IntKind.signed, IntKind.bits, wrap64] <;> omega
/-- May a state be? -/
def WS.may (s : WS) : Bool := inI 1 s.mt 65536 && inI s.mt s.cw 1073741824 && inI 0 s.th 1073741824 && inI 0 s.pa 1073741824
theorem may_iff {s : WS} : s.may = true ↔ (1 ≤ s.mt ∧ s.mt ≤ 65536) ∧ (s.mt ≤ s.cw ∧ s.cw ≤ 1073741824) ∧ (0 ≤ s.th ∧ s.th ≤ 1073741824) ∧ (0 ≤ s.pa ∧ s.pa ≤ 1073741824) := by
  simp only [WS.may, Bool.and_eq_true, inI_iff]
  constructor
  · rintro ⟨⟨⟨a, b⟩, c⟩, d⟩; exact ⟨a, b, c, d⟩
  · rintro ⟨a, b, c, d⟩; exact ⟨⟨⟨a, b⟩, c⟩, d⟩
theorem mayBe_any (s : WS) (w : World) :
    Calls Try.prog 17 #[.agg s.cells] w fun e w' => e = .returned (.bool s.may) ∧ Below w.heap.size w w' := by
  have l1 := keep (below_lay w (.cells s.cells 26))
  obtain ⟨cw, th, pa, mt, re, ex⟩ := s
  dsimp only [WS.cells] at l1 ⊢
  go_enter Try.func17, Try.ntmps17
  go_wp2_with (go_at_call 16; refine (within_any _ _ _ _).mono ?_; rintro e w' ⟨rfl, rfl⟩)
  all_goals go_ret
  all_goals exact ⟨ret_bool (by simp_all [WS.may]), l1.out⟩
end Go.Proofs.Ytjogpkkokblmoaa
