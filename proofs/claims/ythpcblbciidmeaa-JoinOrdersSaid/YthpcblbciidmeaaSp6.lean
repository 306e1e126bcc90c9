/- The reference: which message chunks are. -/
import Derived.Test.YthpcblbciidmeaaSp5
import Derived.Deep.RegionHeld3
import Derived.Test.YthpcblbciidmeaaAppK
namespace Go.Proofs.Ythpcblbciidmeaa
open Go.RowKit
set_option linter.unusedVariables false

theorem wrap_in (x : Int) (h : -9223372036854775808 ≤ x ∧ x ≤ 9223372036854775807) : IntKind.i64.wrap x = x ∧ wrap64 x = x := by
  constructor <;> simp [IntKind.wrap, IntKind.signed, IntKind.bits, wrap64] <;> omega
theorem Msg_size : (Try.prog.info? 44).map (·.size) = some 4 := by kernel_rfl
/-- A message's block. -/
def MB (w : World) (g : Nat) (x : MX) : Prop := w.heap[g]? = some (.cells x.cells.toArray 44 (0, 0))
theorem MB.lt {w : World} {g : Nat} {x : MX} (h : MB w g x) : g < w.heap.size := (Array.getElem?_eq_some_iff.1 h).1
theorem MB.at_ {w : World} {g : Nat} {x : MX} (h : MB w g x) (j : Nat) (v : Value) (hv : x.cells.toArray[j]? = some v) : w.cell? ⟨g, j, none⟩ = some v := by rw [cell_of_row _ _ _ _ _ _ h]; exact hv
theorem MB.fz {w : World} {g : Nat} {x : MX} (h : MB w g x) (j : Nat) : w.frozen? ⟨g, j, none⟩ = false := frozen_of_row w g j _ _ h
theorem MB.all {w : World} {g : Nat} {x : MX} (h : MB w g x) :
    (w.cell? ⟨g, 0, none⟩ = some (.int .u16 x.st) ∧ w.cell? ⟨g, 1, none⟩ = some (.bool x.un) ∧ w.cell? ⟨g, 2, none⟩ = some (.int .u32 x.pp) ∧ w.cell? ⟨g, 3, none⟩ = some (.slice x.da.1 x.da.2.1 x.da.2.2)) ∧
    (w.frozen? ⟨g, 0, none⟩ = false ∧ w.frozen? ⟨g, 1, none⟩ = false ∧ w.frozen? ⟨g, 2, none⟩ = false ∧ w.frozen? ⟨g, 3, none⟩ = false) :=
  ⟨⟨h.at_ 0 _ rfl, h.at_ 1 _ rfl, h.at_ 2 _ rfl, h.at_ 3 _ rfl⟩, h.fz 0, h.fz 1, h.fz 2, h.fz 3⟩
theorem ret_msg_ok {fn : Func} {p u : Tmp} (hr : fn.results = #[.cell p 44, .tmp u]) (tmps : Array Value) (w : World) (g : Nat) (x : MX) (hp : tmps.getD p undef = .pointer (some ⟨g, 0, none⟩)) (h : MB w g x) :
    (results fn tmps).run Try.prog w = .ok (.tuple #[.agg x.cells.toArray, tmps.getD u undef]) w := by
  rw [results_cell_tmp hr, hp]
  have := run_loadVar_row w g _ 44 x.cells.toArray (0, 0) _ h Try.underlying44 rfl Msg_size
  simp [asAddr, this]
theorem At12.step {w w' : World} {b o : Nat} {x : CX} (h : At12 w b o x) (hb : Below w.heap.size w w') (hlt : b < w.heap.size) : At12 w' b o x := by
  have k : ∀ (j : Nat) (v : Value), w.cell? ⟨b, j, none⟩ = some v → w'.cell? ⟨b, j, none⟩ = some v := fun j v h => (hb.cell (p := ⟨b, j, none⟩) hlt).trans h
  obtain ⟨c0, c1, c2, c3, c4, c5, c6, c7, c8, c9, c10, c11⟩ := h
  exact ⟨k _ _ c0, k _ _ c1, k _ _ c2, k _ _ c3, k _ _ c4, k _ _ c5, k _ _ c6, k _ _ c7, k _ _ c8, k _ _ c9, k _ _ c10, k _ _ c11⟩
def MX.zero : MX := ⟨0, false, 0, (none, 0, 0), []⟩
/-- What a call that tells a message leaves. -/
def TellM (w : World) (o : Option Msg) (e : Ending) (w' : World) : Prop :=
  ∃ x : MX, e = .returned (.tuple #[.agg x.cells.toArray, .bool o.isSome]) ∧ MV w' x ∧ x.msg = o.getD ⟨0, false, 0, []⟩ ∧ Below w.heap.size w w'
def wholeO (l : List Ch) : Option Msg := if whole l = true then some (msgOf l) else none

/-- While the reference gathers: its message's block g, its result's block, and the row of octets. -/
structure WJ (w : World) (g : Nat) (mx : MX) (wr : World) : Prop where
  m : MB wr g mx
  r : MB wr w.heap.size MX.zero
  own : wr.ownsRow (g + 1) 5 1 (.slice mx.da.1 mx.da.2.1 mx.da.2.2) mx.da.2.1 (bc mx.bs)
  below : Below w.heap.size w wr
  gw : w.heap.size < g
  sz : g + 1 ≤ wr.heap.size
theorem cell_else {W : World} {k j : Nat} {p : Addr} (h : p.block ≠ k) (v : Value) : (W.setCell ⟨k, j, none⟩ v).cell? p = W.cell? p := by
  have e := heap_setCell_other W ⟨k, j, none⟩ p.block v h
  unfold World.cell?
  rw [e]
theorem WJ.drewN {w : World} {g : Nat} {mx : MX} {wr : World} (h : WJ w g mx wr) (k : Nat) : WJ w g mx (wr.drewN k) := ⟨h.m, h.r, h.own, below_drewN h.below k, h.gw, h.sz⟩
theorem WJ.step {w : World} {g : Nat} {mx : MX} {wr w2 : World} (h : WJ w g mx wr) (hb : Below wr.heap.size wr w2) : WJ w g mx w2 := by
  refine ⟨(hb.block g h.m.lt).trans h.m, (hb.block _ h.r.lt).trans h.r, ⟨h.own.1, ?_⟩, h.below.trans (hb.mono h.below.size), h.gw, Nat.le_trans h.sz hb.size⟩
  rcases h.own.2 with h0 | ⟨k, cap, cur, hv, hk, hg, r⟩
  · exact .inl h0
  · exact .inr ⟨k, cap, cur, hv, hk, (hb.block k (Array.getElem?_eq_some_iff.1 hg).1).trans hg, r⟩
theorem WJ.app {w : World} {g : Nat} {mx : MX} {wr w2 : World} (h : WJ w g mx wr) {A' : Option Addr} {m c' : Nat} {ubs : List UInt8} (ho : w2.ownsRow (g + 1) 5 1 (.slice A' (mx.da.2.1 + m) c') (mx.da.2.1 + m) (bc mx.bs ++ bc ubs)) (hb : Below (g + 1) wr w2) :
    WJ w g ⟨mx.st, mx.un, mx.pp, (A', mx.da.2.1 + m, c'), mx.bs ++ ubs⟩ (w2.setCell ⟨g, 3, none⟩ (.slice A' (mx.da.2.1 + m) c')) := by
  have m2 : MB w2 g mx := (hb.block g (by omega)).trans h.m
  have r2 : MB w2 w.heap.size MX.zero := (hb.block _ (by have := h.gw; omega)).trans h.r
  refine ⟨heap_setCell_same w2 g 3 _ _ _ m2, (heap_setCell_other w2 ⟨g, 3, none⟩ w.heap.size _ (by have := h.gw; show w.heap.size ≠ g; omega)).trans r2, ?_, (h.below.trans (hb.mono (by have := h.gw; omega))).setCell (p := ⟨g, 3, none⟩) (Nat.le_of_lt h.gw) _, h.gw, ?_⟩
  · rw [bc_append]
    exact ownsRow_setCell_below ho (a := ⟨g, 3, none⟩) (Nat.lt_succ_self g) _
  · have := hb.size
    have := h.sz
    simp
    omega
theorem flat_len_le {l : List CX} {D : Nat} (h : ∀ x ∈ l, x.bs.length ≤ D) (j : Nat) : ((l.take j).flatMap CX.bs).length ≤ j * D := by
  induction j generalizing l with
  | zero => simp
  | succ j ih =>
    cases l with
    | nil => simp
    | cons x r =>
      rw [List.take_succ_cons, List.flatMap_cons, List.length_append, Nat.add_mul, Nat.one_mul]
      have := ih (l := r) fun y hy => h y (List.mem_cons_of_mem _ hy)
      have := h x (by simp)
      omega
theorem u8_info : (Try.prog.info? 5).map (fun i => (i.zero, i.size, i.bytes)) = some (some (.int .u8 0), 1, 1) := by kernel_rfl
theorem MB.laid {w : World} {g : Nat} {u : MX} (h : MB w g u) (x : MX) : MB ((((w.setCell ⟨g, 0, none⟩ (.int .u16 x.st)).setCell ⟨g, 1, none⟩ (.bool x.un)).setCell ⟨g, 2, none⟩ (.int .u32 x.pp)).setCell ⟨g, 3, none⟩ (.slice x.da.1 x.da.2.1 x.da.2.2)) g x := by
  exact heap_setCell_same _ g 3 _ _ _ (heap_setCell_same _ g 2 _ _ _ (heap_setCell_same _ g 1 _ _ _ (heap_setCell_same w g 0 _ _ _ h)))
theorem MB.below {w0 w : World} {g : Nat} (h : Below g w0 w) (x : MX) : Below g w0 ((((w.setCell ⟨g, 0, none⟩ (.int .u16 x.st)).setCell ⟨g, 1, none⟩ (.bool x.un)).setCell ⟨g, 2, none⟩ (.int .u32 x.pp)).setCell ⟨g, 3, none⟩ (.slice x.da.1 x.da.2.1 x.da.2.2)) :=
  (((h.setCell (p := ⟨g, 0, none⟩) (Nat.le_refl _) _).setCell (p := ⟨g, 1, none⟩) (Nat.le_refl _) _).setCell (p := ⟨g, 2, none⟩) (Nat.le_refl _) _).setCell (p := ⟨g, 3, none⟩) (Nat.le_refl _) _
theorem MB.own {w : World} {g base n c : Nat} {A : Option Addr} {bs : List UInt8} (h : w.ownsRow base 5 1 (.slice A n c) n (bc bs)) (hg : g < base) (x : MX) : BS ((((w.setCell ⟨g, 0, none⟩ (.int .u16 x.st)).setCell ⟨g, 1, none⟩ (.bool x.un)).setCell ⟨g, 2, none⟩ (.int .u32 x.pp)).setCell ⟨g, 3, none⟩ (.slice x.da.1 x.da.2.1 x.da.2.2)) A n c bs := by
  have h4 := ownsRow_setCell_below (ownsRow_setCell_below (ownsRow_setCell_below (ownsRow_setCell_below h (a := ⟨g, 0, none⟩) hg (.int .u16 x.st)) (a := ⟨g, 1, none⟩) hg (.bool x.un)) (a := ⟨g, 2, none⟩) hg (.int .u32 x.pp)) (a := ⟨g, 3, none⟩) hg (.slice x.da.1 x.da.2.1 x.da.2.2)
  obtain ⟨A', c', he, hc, _⟩ := own_shape2' h4
  injection he with _ _ e3
  have hl := h4.1
  rw [bc_length, Nat.mul_one] at hl
  exact ⟨hl.symm, by omega, BR.of_own h4⟩
theorem whole_make {l : List Ch} {x y : Ch} (hx : l[0]? = some x) (hy : l.getLast? = some y) (hk : x.kd = 0) (hb : x.fl / 2 % 2 = 1) (he : y.fl % 2 = 1) (hc : chain l = true) : whole l = true ∧ msgOf l = ⟨x.ou, decide (x.fl / 4 % 2 = 1), x.pp, l.flatMap Ch.da⟩ := by
  cases l with
  | nil => simp at hx
  | cons z t =>
    simp at hx
    subst hx
    refine ⟨?_, rfl⟩
    unfold whole
    dsimp only
    have : lastEnd (z :: t) = true := by unfold lastEnd; rw [hy]; simp [he]
    rw [this, hc]
    simp [hk, hb]
theorem chain_take {l : List Ch} {j : Nat} {x y : Ch} (h : chain (l.take j) = true) (hx : l[j - 1]? = some x) (hy : l[j]? = some y) (hj : 0 < j) (hf : fol x y = true) : chain (l.take (j + 1)) = true := by
  refine chain_of _ fun i u v hu hv => ?_
  rw [List.getElem?_take] at hu hv
  split at hv
  · rename_i h1
    rw [if_pos (by omega)] at hu
    by_cases hij : i + 1 = j
    · have e1 : i = j - 1 := by omega
      rw [e1, hx] at hu
      rw [hij, hy] at hv
      injection hu with hu
      injection hv with hv
      rw [← hu, ← hv]
      exact hf
    · refine chain_get (l.take j) i u v h ?_ ?_
      · rw [List.getElem?_take, if_pos (by omega)]; exact hu
      · rw [List.getElem?_take, if_pos (by omega)]; exact hv
  · cases hv
end Go.Proofs.Ythpcblbciidmeaa
