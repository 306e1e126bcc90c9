/- Package sip: what its own functions answer. -/
import Derived.Test.YtjfkiiohmjdceaaSip1
import Derived.Laws.Rows
namespace Go.Proofs.Ytjfkiiohmjdceaa
open Go.RowKit
set_option linter.unusedVariables false

def V4.arr (v : V4) : Array Value := #[.int .u64 (v.a.toNat : Int), .int .u64 (v.b.toNat : Int), .int .u64 (v.c.toNat : Int), .int .u64 (v.d.toNat : Int)]
theorem V4.val_arr (v : V4) : v.val = .agg v.arr := rfl
theorem val_of (a b c d : BitVec 64) : V4.val ⟨a, b, c, d⟩ = .agg #[.int .u64 (a.toNat : Int), .int .u64 (b.toNat : Int), .int .u64 (c.toNat : Int), .int .u64 (d.toNat : Int)] := rfl
/-- The block g holds four numbers. -/
def At (w : World) (g : Nat) (v : V4) : Prop := w.heap[g]? = some (.cells v.arr 72 (0, 0))
theorem arr_size : (Try.prog.info? 72).map (·.size) = some 4 := by kernel_rfl
theorem At.lt {w : World} {g : Nat} {v : V4} (h : At w g v) : g < w.heap.size := (Array.getElem?_eq_some_iff.1 h).1
theorem At.step {w w' : World} {g : Nat} {v : V4} (h : At w g v) (hb : Below w.heap.size w w') : At w' g v := by
  unfold At
  rw [hb.block g h.lt]
  exact h
theorem At.c0 {w : World} {g : Nat} {v : V4} (h : At w g v) : w.cell? ⟨g, 0, none⟩ = some (.int .u64 (v.a.toNat : Int)) := by rw [cell_of_row w g 0 _ _ _ h]; rfl
theorem At.c1 {w : World} {g : Nat} {v : V4} (h : At w g v) : w.cell? ⟨g, 1, none⟩ = some (.int .u64 (v.b.toNat : Int)) := by rw [cell_of_row w g 1 _ _ _ h]; rfl
theorem At.c2 {w : World} {g : Nat} {v : V4} (h : At w g v) : w.cell? ⟨g, 2, none⟩ = some (.int .u64 (v.c.toNat : Int)) := by rw [cell_of_row w g 2 _ _ _ h]; rfl
theorem At.c3 {w : World} {g : Nat} {v : V4} (h : At w g v) : w.cell? ⟨g, 3, none⟩ = some (.int .u64 (v.d.toNat : Int)) := by rw [cell_of_row w g 3 _ _ _ h]; rfl
theorem At.fz {w : World} {g : Nat} {v : V4} (h : At w g v) (j : Nat) : w.frozen? ⟨g, j, none⟩ = false := frozen_of_row w g j _ _ h
theorem At.all {w : World} {g : Nat} {v : V4} (h : At w g v) : (w.cell? ⟨g, 0, none⟩ = some (.int .u64 (v.a.toNat : Int)) ∧ w.cell? ⟨g, 1, none⟩ = some (.int .u64 (v.b.toNat : Int)) ∧ w.cell? ⟨g, 2, none⟩ = some (.int .u64 (v.c.toNat : Int)) ∧ w.cell? ⟨g, 3, none⟩ = some (.int .u64 (v.d.toNat : Int))) ∧
    w.frozen? ⟨g, 0, none⟩ = false ∧ w.frozen? ⟨g, 1, none⟩ = false ∧ w.frozen? ⟨g, 2, none⟩ = false ∧ w.frozen? ⟨g, 3, none⟩ = false := ⟨⟨h.c0, h.c1, h.c2, h.c3⟩, h.fz 0, h.fz 1, h.fz 2, h.fz 3⟩
def V4.zero : V4 := ⟨0, 0, 0, 0⟩
/-- Four numbers are laid over four cells. -/
theorem laid4 {w : World} {g : Nat} {C : Array Value} (h : w.heap[g]? = some (.cells C 72 (0, 0))) (hC : C.size = 4) (v : V4) :
    At ((((w.setCell ⟨g, 0, none⟩ (.int .u64 (v.a.toNat : Int))).setCell ⟨g, 1, none⟩ (.int .u64 (v.b.toNat : Int))).setCell ⟨g, 2, none⟩ (.int .u64 (v.c.toNat : Int))).setCell ⟨g, 3, none⟩ (.int .u64 (v.d.toNat : Int))) g v := by
  obtain ⟨l⟩ := C
  rcases l with _ | ⟨x0, _ | ⟨x1, _ | ⟨x2, _ | ⟨x3, _ | ⟨x4, l⟩⟩⟩⟩⟩ <;> simp at hC
  exact heap_setCell_same _ _ 3 _ _ _ (heap_setCell_same _ _ 2 _ _ _ (heap_setCell_same _ _ 1 _ _ _ (heap_setCell_same _ _ 0 _ _ _ h)))
theorem below4 {B : Nat} {a w : World} (h : Below B a w) {g : Nat} (hg : B ≤ g) (x0 x1 x2 x3 : Value) :
    Below B a ((((w.setCell ⟨g, 0, none⟩ x0).setCell ⟨g, 1, none⟩ x1).setCell ⟨g, 2, none⟩ x2).setCell ⟨g, 3, none⟩ x3) :=
  (((h.setCell (p := ⟨g, 0, none⟩) hg x0).setCell (p := ⟨g, 1, none⟩) hg x1).setCell (p := ⟨g, 2, none⟩) hg x2).setCell (p := ⟨g, 3, none⟩) hg x3
theorem below_drew_more {B : Nat} {a w : World} (h : Below B a w) (k : Nat) : Below B a (w.drewN k) := ⟨h.os, h.tape, h.output, h.size, h.block⟩
theorem At.lay {w : World} {g : Nat} {u : V4} (h : At w g u) (v : V4) :
    At ((((w.setCell ⟨g, 0, none⟩ (.int .u64 (v.a.toNat : Int))).setCell ⟨g, 1, none⟩ (.int .u64 (v.b.toNat : Int))).setCell ⟨g, 2, none⟩ (.int .u64 (v.c.toNat : Int))).setCell ⟨g, 3, none⟩ (.int .u64 (v.d.toNat : Int))) g v := laid4 h rfl v
/-- Another block is as it was. -/
theorem At.else_ {w : World} {g k : Nat} {u : V4} (h : At w k u) (hk : k ≠ g) (x0 x1 x2 x3 : Value) :
    At ((((w.setCell ⟨g, 0, none⟩ x0).setCell ⟨g, 1, none⟩ x1).setCell ⟨g, 2, none⟩ x2).setCell ⟨g, 3, none⟩ x3) k u := by
  unfold At
  rw [heap_setCell_other _ _ _ _ hk, heap_setCell_other _ _ _ _ hk, heap_setCell_other _ _ _ _ hk, heap_setCell_other _ _ _ _ hk]
  exact h
theorem At.apart {w : World} {k : Nat} {u : V4} (h : At w k u) (a : Addr) (x : Value) (hk : k ≠ a.block) : At (w.setCell a x) k u := by
  unfold At
  rw [heap_setCell_other _ _ _ _ hk]
  exact h
/-- A function that hands back the four numbers of its block. -/
theorem ret4 {fn : Func} {p : Tmp} (hr : fn.results = #[.cell p 72]) (tmps : Array Value) (w : World) (g : Nat) (v : V4) (hp : tmps.getD p undef = .pointer (some ⟨g, 0, none⟩)) (h : At w g v) :
    (results fn tmps).run Try.prog w = .ok v.val w :=
  results_cell_row hr tmps w g _ v.arr (0, 0) _ hp h Try.underlying72 rfl arr_size

set_option maxRecDepth 100000 in
theorem Round_some (a b c d : BitVec 64) (w : World) :
    Calls Try.prog 48 #[.agg #[.int .u64 (a.toNat : Int), .int .u64 (b.toNat : Int), .int .u64 (c.toNat : Int), .int .u64 (d.toNat : Int)]] w fun e w' => e = .returned (rnd ⟨a, b, c, d⟩).val ∧ Below w.heap.size w w' := by
  obtain ⟨a1, b1, b2, a2, c1, d1, d2, a3, d3, d4, c2, b3, b4, c3, ⟨E, A1, B1, B2, A2, C1, D1, D2, A3, D3, D4, C2, B3, B4, C3⟩⟩ := steps a b c d
  go_enter Try.func48, Try.ntmps48
  go_wp2_with fail
  go_quiet (fail)
  go_wp2_with (go_at_call 49; refine (rot_at _ _ _ (by assumption) _).mono ?_; rintro e w' ⟨rfl, rfl⟩)
  rw [E.out]
  (try simp only [Exit.inBlock, Exit.then])
  refine bodyPost_ret (ret4 rfl _ _ (w.heap.size + 1) ⟨a3, b4, c3, d4⟩ rfl ?_) rfl ⟨rfl, ?_⟩
  · refine laid4 (C := #[.int .u64 0, .int .u64 0, .int .u64 0, .int .u64 0]) ?_ rfl ⟨a3, b4, c3, d4⟩
    exact heap_alloc2_new w _ _
  · exact below4 (below_drew_more ((below_lay w _).alloc (by simp) _) nq) (by omega) _ _ _ _
end Go.Proofs.Ytjfkiiohmjdceaa
