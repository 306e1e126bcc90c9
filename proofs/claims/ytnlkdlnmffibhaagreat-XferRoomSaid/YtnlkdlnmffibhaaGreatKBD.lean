/- KBD of the stage: texts Wi1, Wi2, Wi3, Wi4, Wi5, Wi6, Ro1, Ro2, joined. -/
import Derived.Test.YtnlkdlnmffibhaaGreatKAA
import Derived.Test.YtnlkdlnmffibhaaGreatKAB
import Derived.KernelRfl
import Derived.Laws.ResultCell
import Derived.Laws.Rows
import Derived.Deep.Cut
import Derived.BigQuiet
import Derived.Deep.RegionHeld3
import Derived.Test.YtnlkdlnmffibhaaGreatProg
set_option linter.unusedSimpArgs false
set_option linter.unusedVariables false
set_option maxRecDepth 8000
namespace Go.Proofs.YtnlkdlnmffibhaaGreat
section
open Go.RowKit
def inI (l n m : Int) : Bool := decide (l ≤ n ∧ n ≤ m)
theorem inI_iff {l n m : Int} : inI l n m = true ↔ l ≤ n ∧ n ≤ m := by simp [inI]
theorem within_any (l n m : Int) (w : World) :
    Calls Tryz.prog 78 #[.int .i64 l, .int .i64 n, .int .i64 m] w fun e w' => e = .returned (.bool (inI l n m)) ∧ w = w' := by
  go_enter Tryz.func78, Tryz.ntmps78
  go_wp2_with fail
  all_goals go_ret
  all_goals exact ⟨ret_bool (by unfold inI; first | (simp_all; done) | (simp_all; omega)), rfl⟩
structure WS where
  cw : Int
  th : Int
  pa : Int
  mt : Int
  re : Bool
  ex : Int
def WS.cells (s : WS) : Array Value := #[.int .i64 s.cw, .int .i64 s.th, .int .i64 s.pa, .int .i64 s.mt, .bool s.re, .int .u32 s.ex]
def WS.zero : WS := ⟨0, 0, 0, 0, false, 0⟩
theorem St_size : (Tryz.prog.info? 57).map (·.size) = some 6 := by kernel_rfl
def WB (t : TypeId) (w : World) (g : Nat) (s : WS) : Prop := w.heap[g]? = some (.cells s.cells t (0, 0))
theorem WB.lt {t : TypeId} {w : World} {g : Nat} {s : WS} (h : WB t w g s) : g < w.heap.size := (Array.getElem?_eq_some_iff.1 h).1
theorem WB.at_ {t : TypeId} {w : World} {g : Nat} {s : WS} (h : WB t w g s) (j : Nat) (v : Value) (hv : s.cells[j]? = some v) : w.cell? ⟨g, j, none⟩ = some v := by rw [cell_of_row _ _ _ _ _ _ h]; exact hv
theorem WB.fz {t : TypeId} {w : World} {g : Nat} {s : WS} (h : WB t w g s) (j : Nat) : w.frozen? ⟨g, j, none⟩ = false := frozen_of_row w g j _ _ h
theorem WB.step {t : TypeId} {w w' : World} {g : Nat} {s : WS} (h : WB t w g s) (hb : Below w.heap.size w w') : WB t w' g s := (hb.block g h.lt).trans h
theorem WB.new (t : TypeId) (w : World) (s : WS) : WB t (w.alloc (.cells s.cells t)) w.heap.size s := heap_alloc_new w _
theorem WB.else_ {t : TypeId} {w : World} {g k j : Nat} {s : WS} (h : WB t w g s) (hne : g ≠ k) (v : Value) : WB t (w.setCell ⟨k, j, none⟩ v) g s := (heap_setCell_other w ⟨k, j, none⟩ g v hne).trans h
theorem WB.cw {t : TypeId} {w : World} {g : Nat} {s : WS} (h : WB t w g s) (x : Int) : WB t (w.setCell ⟨g, 0, none⟩ (.int .i64 x)) g { s with cw := x } := heap_setCell_same w g 0 _ _ _ h
theorem WB.th {t : TypeId} {w : World} {g : Nat} {s : WS} (h : WB t w g s) (x : Int) : WB t (w.setCell ⟨g, 1, none⟩ (.int .i64 x)) g { s with th := x } := heap_setCell_same w g 1 _ _ _ h
theorem WB.pa {t : TypeId} {w : World} {g : Nat} {s : WS} (h : WB t w g s) (x : Int) : WB t (w.setCell ⟨g, 2, none⟩ (.int .i64 x)) g { s with pa := x } := heap_setCell_same w g 2 _ _ _ h
theorem WB.mt {t : TypeId} {w : World} {g : Nat} {s : WS} (h : WB t w g s) (x : Int) : WB t (w.setCell ⟨g, 3, none⟩ (.int .i64 x)) g { s with mt := x } := heap_setCell_same w g 3 _ _ _ h
theorem WB.re {t : TypeId} {w : World} {g : Nat} {s : WS} (h : WB t w g s) (x : Bool) : WB t (w.setCell ⟨g, 4, none⟩ (.bool x)) g { s with re := x } := heap_setCell_same w g 4 _ _ _ h
theorem WB.ex {t : TypeId} {w : World} {g : Nat} {s : WS} (h : WB t w g s) (x : Int) : WB t (w.setCell ⟨g, 5, none⟩ (.int .u32 x)) g { s with ex := x } := heap_setCell_same w g 5 _ _ _ h
theorem WB.all {t : TypeId} {w : World} {g : Nat} {s : WS} (h : WB t w g s) :
    (w.cell? ⟨g, 0, none⟩ = some (.int .i64 s.cw) ∧ w.cell? ⟨g, 1, none⟩ = some (.int .i64 s.th) ∧ w.cell? ⟨g, 2, none⟩ = some (.int .i64 s.pa) ∧ w.cell? ⟨g, 3, none⟩ = some (.int .i64 s.mt) ∧ w.cell? ⟨g, 4, none⟩ = some (.bool s.re) ∧ w.cell? ⟨g, 5, none⟩ = some (.int .u32 s.ex)) ∧
    (w.frozen? ⟨g, 0, none⟩ = false ∧ w.frozen? ⟨g, 1, none⟩ = false ∧ w.frozen? ⟨g, 2, none⟩ = false ∧ w.frozen? ⟨g, 3, none⟩ = false ∧ w.frozen? ⟨g, 4, none⟩ = false ∧ w.frozen? ⟨g, 5, none⟩ = false) :=
  ⟨⟨h.at_ 0 _ rfl, h.at_ 1 _ rfl, h.at_ 2 _ rfl, h.at_ 3 _ rfl, h.at_ 4 _ rfl, h.at_ 5 _ rfl⟩, h.fz 0, h.fz 1, h.fz 2, h.fz 3, h.fz 4, h.fz 5⟩
abbrev lay6 (w : World) (g : Nat) (s : WS) : World := (((((w.setCell ⟨g, 0, none⟩ (.int .i64 s.cw)).setCell ⟨g, 1, none⟩ (.int .i64 s.th)).setCell ⟨g, 2, none⟩ (.int .i64 s.pa)).setCell ⟨g, 3, none⟩ (.int .i64 s.mt)).setCell ⟨g, 4, none⟩ (.bool s.re)).setCell ⟨g, 5, none⟩ (.int .u32 s.ex)
theorem laid6 {t : TypeId} {w : World} {g : Nat} {u : WS} (h : WB t w g u) (s : WS) : WB t (lay6 w g s) g s := (((((h.cw s.cw).th s.th).pa s.pa).mt s.mt).re s.re).ex s.ex
theorem below6 {B : Nat} {a w : World} (h : Below B a w) {g : Nat} (hg : B ≤ g) (s : WS) : Below B a (lay6 w g s) :=
  (((((h.setCell (p := ⟨g, 0, none⟩) hg _).setCell (p := ⟨g, 1, none⟩) hg _).setCell (p := ⟨g, 2, none⟩) hg _).setCell (p := ⟨g, 3, none⟩) hg _).setCell (p := ⟨g, 4, none⟩) hg _).setCell (p := ⟨g, 5, none⟩) hg _
theorem else6 {t : TypeId} {w : World} {g k : Nat} {u : WS} (h : WB t w g u) (hne : g ≠ k) (s : WS) : WB t (lay6 w k s) g u :=
  (((((h.else_ hne _).else_ hne _).else_ hne _).else_ hne _).else_ hne _).else_ hne _
theorem ret_st {fn : Func} {p : Tmp} (hr : fn.results = #[.cell p 57]) (tmps : Array Value) (w : World) (g : Nat) (s : WS) (hp : tmps.getD p undef = .pointer (some ⟨g, 0, none⟩)) (h : WB 57 w g s) :
    (results fn tmps).run Tryz.prog w = .ok (.agg s.cells) w :=
  results_cell_row hr tmps w g _ s.cells (0, 0) _ hp h Tryz.underlying57 rfl St_size
def StPost (w : World) (s : WS) (e : Ending) (w' : World) : Prop := e = .returned (.agg s.cells) ∧ Below w.heap.size w w'
theorem wrap_in_wi (x : Int) (h : -9223372036854775808 ≤ x ∧ x ≤ 9223372036854775807) : IntKind.i64.wrap x = x ∧ wrap64 x = x := by
  constructor <;> simp [IntKind.wrap, IntKind.signed, IntKind.bits, wrap64] <;> omega
def WS.may (s : WS) : Bool := inI 1 s.mt 65536 && inI s.mt s.cw 1073741824 && inI 0 s.th 1073741824 && inI 0 s.pa 1073741824
theorem may_iff {s : WS} : s.may = true ↔ (1 ≤ s.mt ∧ s.mt ≤ 65536) ∧ (s.mt ≤ s.cw ∧ s.cw ≤ 1073741824) ∧ (0 ≤ s.th ∧ s.th ≤ 1073741824) ∧ (0 ≤ s.pa ∧ s.pa ≤ 1073741824) := by
  simp only [WS.may, Bool.and_eq_true, inI_iff]
  constructor
  · rintro ⟨⟨⟨a, b⟩, c⟩, d⟩; exact ⟨a, b, c, d⟩
  · rintro ⟨a, b, c, d⟩; exact ⟨⟨⟨a, b⟩, c⟩, d⟩
theorem mayBe_any (s : WS) (w : World) :
    Calls Tryz.prog 93 #[.agg s.cells] w fun e w' => e = .returned (.bool s.may) ∧ Below w.heap.size w w' := by
  have l1 := keep (below_lay w (.cells s.cells 57))
  obtain ⟨cw, th, pa, mt, re, ex⟩ := s
  dsimp only [WS.cells] at l1 ⊢
  go_enter Tryz.func93, Tryz.ntmps93
  go_wp2_with (go_at_call 78; refine (within_any _ _ _ _).mono ?_; rintro e w' ⟨rfl, rfl⟩)
  all_goals go_ret
  all_goals exact ⟨ret_bool (by simp_all [WS.may]), l1.out⟩
end
section
open Go.RowKit
def mtuOf (m : Int) : Int := if inI 1 m 65536 = true then m else 1200
def WS.start (m : Int) : WS := ⟨3 * mtuOf m, 1073741824, 0, mtuOf m, false, 0⟩
theorem Start_any (m : Int) (w : World) : Calls Tryz.prog 49 #[.int .i64 m] w (StPost w (WS.start m)) := by
  rcases h : inI 1 m 65536 with _ | _
  · have e : mtuOf m = 1200 := by unfold mtuOf; rw [h]; rfl
    unfold WS.start
    rw [e]
    go_enter Tryz.func49, Tryz.ntmps49
    go_wp2_with (go_at_call 78; refine (within_any _ _ _ _).mono ?_; rintro e w' ⟨rfl, rfl⟩; rw [h])
    exact bodyPost_ret (ret_st rfl _ _ w.heap.size ⟨3600, 1073741824, 0, 1200, false, 0⟩ rfl (WB.new _ w ⟨3600, 1073741824, 0, 1200, false, 0⟩)) rfl ⟨rfl, below_lay w _⟩
  · have e : mtuOf m = m := by unfold mtuOf; rw [h]; rfl
    unfold WS.start
    rw [e]
    have h1 := inI_iff.1 h
    have e2 := wrap_in_wi (3 * m) (by omega)
    obtain ⟨e2, e3⟩ := e2
    go_enter Tryz.func49, Tryz.ntmps49
    go_wp2_with (go_at_call 78; refine (within_any _ _ _ _).mono ?_; rintro e w' ⟨rfl, rfl⟩; rw [h])
    exact bodyPost_ret (ret_st rfl _ _ w.heap.size ⟨3 * m, 1073741824, 0, m, false, 0⟩ (by rfl) (WB.new _ w ⟨3 * m, 1073741824, 0, m, false, 0⟩)) rfl ⟨rfl, below_lay w _⟩
structure Two (w : World) (s u : WS) (W : World) : Prop where
  r : WB 57 W w.heap.size s
  t : WB 57 W (w.heap.size + 1) u
  below : Below w.heap.size w W
theorem Two.step {w W W' : World} {s u : WS} (h : Two w s u W) (hb : Below W.heap.size W W') : Two w s u W' := ⟨h.r.step hb, h.t.step hb, up h.below hb⟩
theorem Two.new (s : WS) (w : World) : Two w s WS.zero ((w.alloc (.cells s.cells 57)).alloc (.cells WS.zero.cells 57)) := by
  have l1 := below_lay w (.cells s.cells 57)
  have R3 := WB.new 57 (w.alloc (.cells s.cells 57)) WS.zero
  refine ⟨(WB.new _ w s).step (below_lay _ _), ?_, l1.alloc l1.size _⟩
  rw [show (w.alloc (.cells s.cells 57)).heap.size = w.heap.size + 1 by simp] at R3
  exact R3
theorem Two.cw {w W : World} {s u : WS} (h : Two w s u W) (x : Int) : Two w { s with cw := x } u (W.setCell ⟨w.heap.size, 0, none⟩ (.int .i64 x)) := ⟨h.r.cw x, h.t.else_ (by omega) _, h.below.setCell (p := ⟨w.heap.size, 0, none⟩) (Nat.le_refl _) _⟩
theorem Two.re {w W : World} {s u : WS} (h : Two w s u W) (x : Bool) : Two w { s with re := x } u (W.setCell ⟨w.heap.size, 4, none⟩ (.bool x)) := ⟨h.r.re x, h.t.else_ (by omega) _, h.below.setCell (p := ⟨w.heap.size, 4, none⟩) (Nat.le_refl _) _⟩
theorem Two.ret {w W : World} {s u : WS} (h : Two w s u W) {fn : Func} {p : Tmp} (hr : fn.results = #[.cell p 57]) {a : Act} (hd : a.defers = []) (hp : a.tmps.getD p undef = .pointer (some ⟨w.heap.size + 1, 0, none⟩)) :
    bodyPost Tryz.prog fn (StPost w s) Exit.ret a (lay6 W (w.heap.size + 1) s) :=
  bodyPost_ret (ret_st hr _ _ _ _ hp (laid6 h.t s)) hd ⟨rfl, below6 h.below (by omega) s⟩
theorem fin_two (X : Obj) (s : WS) (w : World) {fn : Func} {p : Tmp} (hr : fn.results = #[.cell p 57]) {a : Act} (hd : a.defers = []) (hp : a.tmps.getD p undef = .pointer (some ⟨w.heap.size + 1, 0, none⟩)) :
    bodyPost Tryz.prog fn (StPost w s) Exit.ret a ((w.alloc X).alloc (.cells s.cells 57)) := by
  have l1 := below_lay w X
  have R3 := WB.new 57 (w.alloc X) s
  rw [show (w.alloc X).heap.size = w.heap.size + 1 by simp] at R3
  exact bodyPost_ret (ret_st hr _ _ _ _ hp R3) hd ⟨rfl, l1.alloc l1.size _⟩
def growI (n m : Int) : Int := n + min m (1073741824 - n)
theorem grown_any (n m : Int) (h0 : 0 ≤ n) (h1 : n ≤ 1073741824) (h2 : 0 ≤ m) (h3 : m ≤ 1073741824) (w : World) :
    Calls Tryz.prog 94 #[.int .i64 n, .int .i64 m] w fun e w' => e = .returned (.int .i64 (growI n m)) ∧ w = w' := by
  obtain ⟨a1, a2⟩ := wrap_in_wi (1073741824 - n) (by omega)
  obtain ⟨b1, b2⟩ := wrap_in_wi (n + (1073741824 - n)) (by omega)
  obtain ⟨c1, c2⟩ := wrap_in_wi (n + m) (by omega)
  go_enter Tryz.func94, Tryz.ntmps94
  go_wp2_with fail
  all_goals go_ret
  all_goals exact ⟨ret_int (by unfold growI; omega), rfl⟩
theorem Two.ret' {w W : World} {s u : WS} (h : Two w s u W) {fn : Func} {p : Tmp} (hr : fn.results = #[.cell p 57]) {a : Act} (hd : a.defers = []) (hp : a.tmps.getD p undef = .pointer (some ⟨w.heap.size + 1, 0, none⟩)) (v : WS) :
    bodyPost Tryz.prog fn (StPost w v) Exit.ret a (lay6 W (w.heap.size + 1) v) :=
  bodyPost_ret (ret_st hr _ _ _ _ hp (laid6 h.t v)) hd ⟨rfl, below6 h.below (by omega) v⟩
end
section
open Go.RowKit
def WS.count (s : WS) (n : Int) : WS := if s.cw ≤ growI s.pa n then { s with pa := growI s.pa n - s.cw, cw := growI s.cw s.mt } else { s with pa := growI s.pa n }
set_option maxHeartbeats 1000000 in
theorem counted_any (s : WS) (n : Int) (hm : s.may = true) (h0 : 0 ≤ n) (h1 : n ≤ 1073741824) (w : World) :
    Calls Tryz.prog 95 #[.agg s.cells, .int .i64 n] w (StPost w (s.count n)) := by
  obtain ⟨m1, m2, m3, m4⟩ := may_iff.1 hm
  obtain ⟨cw, th, pa, mt, re, ex⟩ := s
  dsimp only at m1 m2 m3 m4
  have K1 := keep (fun w => grown_any pa n (by omega) (by omega) h0 h1 w)
  have K2 := keep (fun w => grown_any cw mt (by omega) (by omega) (by omega) (by omega) w)
  obtain ⟨y, hy⟩ : ∃ y, growI pa n = y := ⟨_, rfl⟩
  obtain ⟨z, hz⟩ : ∃ z, growI cw mt = z := ⟨_, rfl⟩
  have hy0 : 0 ≤ y ∧ y ≤ 1073741824 := by unfold growI at hy; omega
  obtain ⟨a1, a2⟩ := wrap_in_wi (y - cw) (by omega)
  unfold WS.count
  dsimp only [WS.cells]
  rw [hy] at K1 ⊢
  rw [hz] at K2 ⊢
  clear hm m1 m2 m3 m4 hy hz hy0 h0 h1
  by_cases hc : cw ≤ y
  · rw [if_pos hc]
    go_enter Tryz.func95, Tryz.ntmps95
    go_wp2_with (first
      | (go_at_call_of 94 (Value.int IntKind.i64 n); refine (K1.out _).mono ?_; rintro e w2 ⟨rfl, rfl⟩)
      | (go_at_call 94; refine (K2.out _).mono ?_; rintro e w2 ⟨rfl, rfl⟩))
    exact fin_two _ ⟨z, th, y - cw, mt, re, ex⟩ w rfl rfl rfl
  · rw [if_neg hc]
    go_enter Tryz.func95, Tryz.ntmps95
    go_wp2_with (first
      | (go_at_call_of 94 (Value.int IntKind.i64 n); refine (K1.out _).mono ?_; rintro e w2 ⟨rfl, rfl⟩)
      | (go_at_call 94; refine (K2.out _).mono ?_; rintro e w2 ⟨rfl, rfl⟩))
    exact fin_two _ ⟨cw, th, y, mt, re, ex⟩ w rfl rfl rfl
end
section
open Go.RowKit
def WS.acked (s : WS) (n : Int) (full : Bool) (cum : Int) : WS :=
  if (s.may && inI 0 n 1073741824) = false then s
  else if s.re = true then { s with re := decide (s.ex ≠ cum) && !less32 s.ex cum }
  else if n = 0 ∨ full = false then s
  else if s.cw ≤ s.th then { s with cw := growI s.cw (min n s.mt) }
  else s.count n
theorem Two.six {w W : World} {s u : WS} (h : Two w s u W) (v : WS) : Two w v u (lay6 W w.heap.size v) := ⟨laid6 h.r v, else6 h.t (by omega) v, below6 h.below (Nat.le_refl _) v⟩
set_option maxHeartbeats 1000000 in
theorem acked_not (s : WS) (n : Int) (full : Bool) (cum : Int) (hm : s.may = false) (w : World) :
    Calls Tryz.prog 58 #[.agg s.cells, .int .i64 n, .bool full, .int .u32 cum] w (StPost w s) := by
  have K0 := mayBe_any s
  have K1 := fun w => within_any 0 n 1073741824 w
  rw [hm] at K0
  clear hm
  obtain ⟨cw, th, pa, mt, re, ex⟩ := s
  have T := keep (Two.new ⟨cw, th, pa, mt, re, ex⟩ w)
  dsimp only [WS.cells] at K0 ⊢
  replace K0 := keep K0
  replace K1 := keep K1
  go_enter Tryz.func58, Tryz.ntmps58
  go_wp2_with (first
    | (go_at_call 93; refine (K0.out _).mono ?_; rintro e w2 ⟨rfl, hb⟩
       have T2 := T.out.step hb
       obtain ⟨⟨d0, d1, d2, d3, d4, d5⟩, f0, f1, f2, f3, f4, f5⟩ := T2.r.all
       obtain ⟨⟨x0, x1, x2, x3, x4, x5⟩, y0, y1, y2, y3, y4, y5⟩ := T2.t.all
       dsimp only [WS.zero] at d0 d1 d2 d3 d4 d5 x0 x1 x2 x3 x4 x5
       replace T2 := keep T2
       clear hb T)
    | (go_at_call 78; refine (K1.out _).mono ?_; rintro e w3 ⟨rfl, rfl⟩))
  exact T2.out.ret rfl rfl rfl
set_option maxHeartbeats 1000000 in
theorem acked_out (s : WS) (n : Int) (full : Bool) (cum : Int) (hm : s.may = true) (hn : inI 0 n 1073741824 = false) (w : World) :
    Calls Tryz.prog 58 #[.agg s.cells, .int .i64 n, .bool full, .int .u32 cum] w (StPost w s) := by
  have K0 := mayBe_any s
  have K1 := fun w => within_any 0 n 1073741824 w
  rw [hm] at K0
  rw [hn] at K1
  clear hm hn
  obtain ⟨cw, th, pa, mt, re, ex⟩ := s
  have T := keep (Two.new ⟨cw, th, pa, mt, re, ex⟩ w)
  dsimp only [WS.cells] at K0 ⊢
  replace K0 := keep K0
  replace K1 := keep K1
  go_enter Tryz.func58, Tryz.ntmps58
  go_wp2_with (first
    | (go_at_call 93; refine (K0.out _).mono ?_; rintro e w2 ⟨rfl, hb⟩
       have T2 := T.out.step hb
       obtain ⟨⟨d0, d1, d2, d3, d4, d5⟩, f0, f1, f2, f3, f4, f5⟩ := T2.r.all
       obtain ⟨⟨x0, x1, x2, x3, x4, x5⟩, y0, y1, y2, y3, y4, y5⟩ := T2.t.all
       dsimp only [WS.zero] at d0 d1 d2 d3 d4 d5 x0 x1 x2 x3 x4 x5
       replace T2 := keep T2
       clear hb T)
    | (go_at_call 78; refine (K1.out _).mono ?_; rintro e w3 ⟨rfl, rfl⟩))
  exact T2.out.ret rfl rfl rfl
set_option maxHeartbeats 1000000 in
theorem acked_rec1 (s : WS) (n : Int) (full : Bool) (cum : Int) (hm : s.may = true) (hn : inI 0 n 1073741824 = true) (hr : s.re = true) (hx : s.ex = cum) (w : World) :
    Calls Tryz.prog 58 #[.agg s.cells, .int .i64 n, .bool full, .int .u32 cum] w (StPost w { s with re := false }) := by
  have K0 := mayBe_any s
  have K1 := fun w => within_any 0 n 1073741824 w
  rw [hm] at K0
  rw [hn] at K1
  clear hm hn
  obtain ⟨cw, th, pa, mt, re, ex⟩ := s
  have T := keep (Two.new ⟨cw, th, pa, mt, re, ex⟩ w)
  dsimp only at hr hx
  subst hr
  subst hx
  dsimp only [WS.cells] at K0 ⊢
  replace K0 := keep K0
  replace K1 := keep K1
  go_enter Tryz.func58, Tryz.ntmps58
  go_wp2_with (first
    | (go_at_call 93; refine (K0.out _).mono ?_; rintro e w2 ⟨rfl, hb⟩
       have T2 := T.out.step hb
       obtain ⟨⟨d0, d1, d2, d3, d4, d5⟩, f0, f1, f2, f3, f4, f5⟩ := T2.r.all
       obtain ⟨⟨x0, x1, x2, x3, x4, x5⟩, y0, y1, y2, y3, y4, y5⟩ := T2.t.all
       dsimp only [WS.zero] at d0 d1 d2 d3 d4 d5 x0 x1 x2 x3 x4 x5
       replace T2 := keep T2
       clear hb T)
    | (go_at_call 78; refine (K1.out _).mono ?_; rintro e w3 ⟨rfl, rfl⟩))
  exact (T2.out.re false).ret' rfl rfl rfl ⟨cw, th, pa, mt, false, ex⟩
set_option maxHeartbeats 1000000 in
theorem acked_rec2 (s : WS) (n : Int) (full : Bool) (cum : Int) (hm : s.may = true) (hn : inI 0 n 1073741824 = true) (hr : s.re = true) (hx : ¬ s.ex = cum) (w : World) :
    Calls Tryz.prog 58 #[.agg s.cells, .int .i64 n, .bool full, .int .u32 cum] w (StPost w { s with re := !less32 s.ex cum }) := by
  have K0 := mayBe_any s
  have K1 := fun w => within_any 0 n 1073741824 w
  rw [hm] at K0
  rw [hn] at K1
  clear hm hn
  obtain ⟨cw, th, pa, mt, re, ex⟩ := s
  have T := keep (Two.new ⟨cw, th, pa, mt, re, ex⟩ w)
  dsimp only at hr hx
  subst hr
  have hx2 : (ex != cum) = true := by simp [hx]
  have K2 := fun w => Less_any ex cum w
  dsimp only [WS.cells] at K0 ⊢
  obtain ⟨b, hb⟩ : ∃ b, less32 ex cum = b := ⟨_, rfl⟩
  rw [hb] at K2 ⊢
  replace K2 := keep K2
  clear hb
  replace K0 := keep K0
  replace K1 := keep K1
  go_enter Tryz.func58, Tryz.ntmps58
  go_wp2_with (first
    | (go_at_call 93; refine (K0.out _).mono ?_; rintro e w2 ⟨rfl, hb⟩
       have T2 := T.out.step hb
       obtain ⟨⟨d0, d1, d2, d3, d4, d5⟩, f0, f1, f2, f3, f4, f5⟩ := T2.r.all
       obtain ⟨⟨x0, x1, x2, x3, x4, x5⟩, y0, y1, y2, y3, y4, y5⟩ := T2.t.all
       dsimp only [WS.zero] at d0 d1 d2 d3 d4 d5 x0 x1 x2 x3 x4 x5
       replace T2 := keep T2
       clear hb T)
    | (go_at_call 78; refine (K1.out _).mono ?_; rintro e w3 ⟨rfl, rfl⟩)
    | (go_at_call 79; refine (K2.out _).mono ?_; rintro e w4 ⟨rfl, rfl⟩))
  exact (T2.out.re (!b)).ret' rfl rfl rfl ⟨cw, th, pa, mt, !b, ex⟩
set_option maxHeartbeats 1000000 in
theorem acked_none (s : WS) (n : Int) (full : Bool) (cum : Int) (hm : s.may = true) (hn : inI 0 n 1073741824 = true) (hr : s.re = false) (h0 : n = 0 ∨ (n ≠ 0 ∧ full = false)) (w : World) :
    Calls Tryz.prog 58 #[.agg s.cells, .int .i64 n, .bool full, .int .u32 cum] w (StPost w s) := by
  have K0 := mayBe_any s
  have K1 := fun w => within_any 0 n 1073741824 w
  rw [hm] at K0
  rw [hn] at K1
  clear hm hn
  obtain ⟨cw, th, pa, mt, re, ex⟩ := s
  have T := keep (Two.new ⟨cw, th, pa, mt, re, ex⟩ w)
  dsimp only at hr
  subst hr
  dsimp only [WS.cells] at K0 ⊢
  rcases h0 with rfl | ⟨h0, rfl⟩
  all_goals
  all_goals
    replace K0 := keep K0
    replace K1 := keep K1
    go_enter Tryz.func58, Tryz.ntmps58
    go_wp2_with (first
      | (go_at_call 93; refine (K0.out _).mono ?_; rintro e w2 ⟨rfl, hb⟩
         have T2 := T.out.step hb
         obtain ⟨⟨d0, d1, d2, d3, d4, d5⟩, f0, f1, f2, f3, f4, f5⟩ := T2.r.all
         obtain ⟨⟨x0, x1, x2, x3, x4, x5⟩, y0, y1, y2, y3, y4, y5⟩ := T2.t.all
         dsimp only [WS.zero] at d0 d1 d2 d3 d4 d5 x0 x1 x2 x3 x4 x5
         replace T2 := keep T2
         clear hb T)
      | (go_at_call 78; refine (K1.out _).mono ?_; rintro e w3 ⟨rfl, rfl⟩))
    exact T2.out.ret rfl rfl rfl
set_option maxHeartbeats 1000000 in
theorem acked_slow (s : WS) (n : Int) (full : Bool) (cum : Int) (hm : s.may = true) (hn : inI 0 n 1073741824 = true) (hr : s.re = false) (h0 : n ≠ 0) (hf : full = true) (hc : s.cw ≤ s.th) (w : World) :
    Calls Tryz.prog 58 #[.agg s.cells, .int .i64 n, .bool full, .int .u32 cum] w (StPost w { s with cw := growI s.cw (min n s.mt) }) := by
  have K0 := mayBe_any s
  have K1 := fun w => within_any 0 n 1073741824 w
  rw [hm] at K0
  rw [hn] at K1
  subst hf
  obtain ⟨m1, m2, m3, m4⟩ := may_iff.1 hm
  have n1 := inI_iff.1 hn
  clear hm hn
  obtain ⟨cw, th, pa, mt, re, ex⟩ := s
  have T := keep (Two.new ⟨cw, th, pa, mt, re, ex⟩ w)
  dsimp only at hr m1 m2 m3 m4 hc
  subst hr
  obtain ⟨z, hz⟩ : ∃ z, growI cw (min n mt) = z := ⟨_, rfl⟩
  have K2 : ∀ u, u = min n mt → ∀ w : World, Calls Tryz.prog 94 #[.int .i64 cw, .int .i64 u] w fun e w' => e = .returned (.int .i64 z) ∧ w = w' := fun u hu w => by
    have := grown_any cw u (by omega) (by omega) (by omega) (by omega) w
    rw [hu, hz] at this
    rw [hu]
    exact this
  replace K2 := keep K2
  dsimp only [WS.cells] at K0 ⊢
  rw [hz]
  clear hz m1 m2 m3 m4 n1
  replace K0 := keep K0
  replace K1 := keep K1
  go_enter Tryz.func58, Tryz.ntmps58
  go_wp2_with (first
    | (go_at_call 93; refine (K0.out _).mono ?_; rintro e w2 ⟨rfl, hb⟩
       have T2 := T.out.step hb
       obtain ⟨⟨d0, d1, d2, d3, d4, d5⟩, f0, f1, f2, f3, f4, f5⟩ := T2.r.all
       obtain ⟨⟨x0, x1, x2, x3, x4, x5⟩, y0, y1, y2, y3, y4, y5⟩ := T2.t.all
       dsimp only [WS.zero] at d0 d1 d2 d3 d4 d5 x0 x1 x2 x3 x4 x5
       replace T2 := keep T2
       clear hb T)
    | (go_at_call 78; refine (K1.out _).mono ?_; rintro e w3 ⟨rfl, rfl⟩)
    | (go_at_call 94; refine (K2.out _ (by omega) _).mono ?_; rintro e w4 ⟨rfl, rfl⟩))
  all_goals exact (T2.out.cw z).ret' rfl rfl rfl ⟨z, th, pa, mt, false, ex⟩
set_option maxHeartbeats 1000000 in
theorem acked_count (s : WS) (n : Int) (full : Bool) (cum : Int) (hm : s.may = true) (hn : inI 0 n 1073741824 = true) (hr : s.re = false) (h0 : n ≠ 0) (hf : full = true) (hc : ¬ s.cw ≤ s.th) (w : World) :
    Calls Tryz.prog 58 #[.agg s.cells, .int .i64 n, .bool full, .int .u32 cum] w (StPost w (s.count n)) := by
  have K0 := mayBe_any s
  have K1 := fun w => within_any 0 n 1073741824 w
  have n1 := inI_iff.1 hn
  have K2 := fun w => counted_any s n hm n1.1 n1.2 w
  rw [hm] at K0
  rw [hn] at K1
  subst hf
  clear hm hn n1
  obtain ⟨v, hv⟩ : ∃ v, s.count n = v := ⟨_, rfl⟩
  rw [hv] at K2 ⊢
  clear hv
  obtain ⟨cw', th', pa', mt', re', ex'⟩ := v
  obtain ⟨cw, th, pa, mt, re, ex⟩ := s
  have T := keep (Two.new ⟨cw, th, pa, mt, re, ex⟩ w)
  dsimp only at hr hc
  subst hr
  dsimp only [WS.cells] at K0 K2 ⊢
  replace K2 := keep K2
  replace K0 := keep K0
  replace K1 := keep K1
  go_enter Tryz.func58, Tryz.ntmps58
  go_wp2_with (first
    | (go_at_call 93; refine (K0.out _).mono ?_; rintro e w2 ⟨rfl, hb⟩
       have T2 := T.out.step hb
       obtain ⟨⟨d0, d1, d2, d3, d4, d5⟩, f0, f1, f2, f3, f4, f5⟩ := T2.r.all
       obtain ⟨⟨x0, x1, x2, x3, x4, x5⟩, y0, y1, y2, y3, y4, y5⟩ := T2.t.all
       dsimp only [WS.zero] at d0 d1 d2 d3 d4 d5 x0 x1 x2 x3 x4 x5
       replace T2 := keep T2
       clear hb T)
    | (go_at_call 78; refine (K1.out _).mono ?_; rintro e w3 ⟨rfl, rfl⟩)
    | (go_at_call 95; refine (K2.out _).mono ?_; rintro e w4 ⟨he, hb4⟩
       dsimp only [WS.cells] at he
       subst he
       have T4 := T2.out.step hb4
       have T5 := T4.six ⟨cw', th', pa', mt', re', ex'⟩
       obtain ⟨⟨d0, d1, d2, d3, d4, d5⟩, f0, f1, f2, f3, f4, f5⟩ := T4.r.all
       obtain ⟨⟨g0, g1, g2, g3, g4, g5⟩, _⟩ := T5.r.all
       obtain ⟨⟨x0, x1, x2, x3, x4, x5⟩, y0, y1, y2, y3, y4, y5⟩ := T5.t.all
       dsimp only [WS.zero] at d0 d1 d2 d3 d4 d5 g0 g1 g2 g3 g4 g5 x0 x1 x2 x3 x4 x5
       replace T5 := keep T5
       clear hb4 T2 T4))
  exact T5.out.ret' rfl rfl rfl ⟨cw', th', pa', mt', re', ex'⟩
theorem Acked_any (s : WS) (n : Int) (full : Bool) (cum : Int) (w : World) :
    Calls Tryz.prog 58 #[.agg s.cells, .int .i64 n, .bool full, .int .u32 cum] w (StPost w (s.acked n full cum)) := by
  unfold WS.acked
  rcases hm : s.may with _ | _
  · rw [if_pos (by rfl)]
    exact acked_not s n full cum hm w
  rcases hn : inI 0 n 1073741824 with _ | _
  · rw [if_pos (by rfl)]
    exact acked_out s n full cum hm hn w
  rw [if_neg (by decide)]
  rcases hr : s.re with _ | _
  · rw [if_neg (by decide)]
    by_cases h0 : n = 0
    · rw [if_pos (.inl h0)]
      exact acked_none s n full cum hm hn hr (.inl h0) w
    rcases hf : full with _ | _
    · rw [if_pos (.inr rfl)]
      exact acked_none s n false cum hm hn hr (.inr ⟨h0, rfl⟩) w
    rw [if_neg (by simp [h0])]
    by_cases hc : s.cw ≤ s.th
    · rw [if_pos hc]
      have := acked_slow s n true cum hm hn hr h0 rfl hc w
      rw [hr] at this
      exact this
    · rw [if_neg hc]
      exact acked_count s n true cum hm hn hr h0 rfl hc w
  · rw [if_pos rfl]
    by_cases hx : s.ex = cum
    · have := acked_rec1 s n full cum hm hn hr hx w
      simpa [hx] using this
    · have := acked_rec2 s n full cum hm hn hr hx w
      simpa [hx] using this
end
section
open Go.RowKit
def WS.room (s : WS) (f p : Int) : Int := if s.may = true ∧ 0 ≤ f ∧ 0 ≤ p then (if f = 0 then max (min s.cw p) s.mt else max (min (s.cw - f) p) 0) else 0
set_option maxHeartbeats 1000000 in
theorem Room_any (s : WS) (f p : Int) (hf : f ≤ 9223372036854775807) (w : World) :
    Calls Tryz.prog 77 #[.agg s.cells, .int .i64 f, .int .i64 p] w fun e w' => e = .returned (.int .i64 (s.room f p)) ∧ Below w.heap.size w w' := by
  have K0 := mayBe_any s
  have R := keep (WB.new 57 w s)
  have L := keep (below_lay w (.cells s.cells 57))
  unfold WS.room
  rcases hm : s.may with _ | _
  · rw [if_neg (by simp)]
    rw [hm] at K0
    clear hm hf
    obtain ⟨cw, th, pa, mt, re, ex⟩ := s
    dsimp only [WS.cells] at K0 R L ⊢
    replace K0 := keep K0
    go_enter Tryz.func77, Tryz.ntmps77
    go_wp2_with (first
      | (go_at_call 93; refine (K0.out _).mono ?_; rintro e w2 ⟨rfl, hb⟩
         have L2 := keep (up L.out hb)
         clear hb L))
    go_ret
    exact ⟨rfl, L2.out⟩
  · obtain ⟨m1, m2, m3, m4⟩ := may_iff.1 hm
    rw [hm] at K0
    obtain ⟨cw, th, pa, mt, re, ex⟩ := s
    dsimp only at m1 m2 m3 m4
    obtain ⟨r, hr⟩ : ∃ r, (if true = true ∧ 0 ≤ f ∧ 0 ≤ p then (if f = 0 then max (min cw p) mt else max (min (cw - f) p) 0) else 0) = r := ⟨_, rfl⟩
    dsimp only
    rw [hr]
    have e1 := fun h : 0 ≤ f => wrap_in_wi (cw - f) (by omega)
    clear hm hf
    by_cases hf0 : f < 0
    · have hr0 : r = 0 := by rw [if_neg (by omega)] at hr; exact hr.symm
      dsimp only [WS.cells] at K0 R L ⊢
      replace K0 := keep K0
      replace hr0 := keep hr0
      clear hr e1
      go_enter Tryz.func77, Tryz.ntmps77
      go_wp2_with (first
        | (go_at_call 93; refine (K0.out _).mono ?_; rintro e w2 ⟨rfl, hb⟩
           have L2 := keep (up L.out hb)
           clear hb L))
      go_ret
      exact ⟨ret_int hr0.out.symm, L2.out⟩
    by_cases hp0 : p < 0
    · have hr0 : r = 0 := by rw [if_neg (by omega)] at hr; exact hr.symm
      dsimp only [WS.cells] at K0 R L ⊢
      replace K0 := keep K0
      replace hr0 := keep hr0
      clear hr e1
      go_enter Tryz.func77, Tryz.ntmps77
      go_wp2_with (first
        | (go_at_call 93; refine (K0.out _).mono ?_; rintro e w2 ⟨rfl, hb⟩
           have L2 := keep (up L.out hb)
           clear hb L))
      go_ret
      exact ⟨ret_int hr0.out.symm, L2.out⟩
    rw [if_pos (show true = true ∧ 0 ≤ f ∧ 0 ≤ p from ⟨rfl, by omega, by omega⟩)] at hr
    have e2 := e1 (by omega)
    obtain ⟨e2, e3⟩ := e2
    clear e1
    by_cases hz : f = 0
    · rw [if_pos hz] at hr
      replace hr := keep hr
      subst hz
      dsimp only [WS.cells] at K0 R L ⊢
      replace K0 := keep K0
      clear e2 e3
      go_enter Tryz.func77, Tryz.ntmps77
      go_wp2_with (first
        | (go_at_call 93; refine (K0.out _).mono ?_; rintro e w2 ⟨rfl, hb⟩
           have R2 := R.out.step hb
           obtain ⟨⟨d0, d1, d2, d3, d4, d5⟩, _⟩ := R2.all
           dsimp only at d0 d1 d2 d3 d4 d5
           have L2 := keep (up L.out hb)
           clear hb L R2 R))
      all_goals go_ret
      all_goals exact ⟨ret_int (by have := hr.out; omega), L2.out⟩
    · rw [if_neg hz] at hr
      replace hr := keep hr
      dsimp only [WS.cells] at K0 R L ⊢
      replace K0 := keep K0
      go_enter Tryz.func77, Tryz.ntmps77
      go_wp2_with (first
        | (go_at_call 93; refine (K0.out _).mono ?_; rintro e w2 ⟨rfl, hb⟩
           have R2 := R.out.step hb
           obtain ⟨⟨d0, d1, d2, d3, d4, d5⟩, _⟩ := R2.all
           dsimp only at d0 d1 d2 d3 d4 d5
           have L2 := keep (up L.out hb)
           clear hb L R2 R))
      all_goals go_ret
      all_goals exact ⟨ret_int (by have := hr.out; omega), L2.out⟩
end
section
open Go.RowKit
theorem Start_at {m a b c d f : Int} {e : Bool} (h : WS.start m = ⟨a, b, c, d, e, f⟩) (w : World) :
    Calls Tryz.prog 49 #[.int .i64 m] w fun r w' => r = .returned (.agg #[.int .i64 a, .int .i64 b, .int .i64 c, .int .i64 d, .bool e, .int .u32 f]) ∧ Below w.heap.size w w' := by
  have := Start_any m w
  rw [h] at this
  exact this
end
section
open Go.RowKit
def held (l m n : Int) : Int := max l (min n m)
def inB (m n : Int) : Bool := decide (0 ≤ n ∧ n ≤ m)
theorem held_iff (m n : Int) (hm : 0 ≤ m) : (held 0 m n = n) ↔ (0 ≤ n ∧ n ≤ m) := by unfold held; omega
theorem ret_int_ro {k : IntKind} {a b : Int} (h : a = b) : Ending.returned (.int k a) = .returned (.int k b) := by rw [h]
theorem clo_any (l m n : Int) (g h : Nat) (w : World) (hg : w.cell? ⟨g, 0, none⟩ = some (.int .i64 l)) (hh : w.cell? ⟨h, 0, none⟩ = some (.int .i64 m)) :
    Calls Tryz.prog 125 #[.int .i64 n, .pointer (some ⟨g, 0, none⟩), .pointer (some ⟨h, 0, none⟩)] w fun e w' => e = .returned (.int .i64 (held l m n)) ∧ w = w' := by
  go_enter Tryz.func125, Tryz.ntmps125
  go_wp2_with fail
  all_goals go_ret
  all_goals exact ⟨ret_int_ro (by unfold held; omega), rfl⟩
def clo (g h : Nat) : Value := .func (.func 125) #[] #[.pointer (some ⟨g, 0, none⟩), .pointer (some ⟨h, 0, none⟩)]
theorem bounds_any (l m : Int) (w : World) :
    Calls Tryz.prog 89 #[.int .i64 l, .int .i64 m] w fun e w' => e = .returned (clo w.heap.size (w.heap.size + 1)) ∧ w' = (w.alloc (.cells #[.int .i64 l] 3)).alloc (.cells #[.int .i64 m] 3) := by
  go_enter Tryz.func89, Tryz.ntmps89
  go_wp2_with fail
  go_ret
  exact ⟨rfl, rfl⟩
def Bd (w : World) (g h : Nat) (l m : Int) : Prop := w.cell? ⟨g, 0, none⟩ = some (.int .i64 l) ∧ w.cell? ⟨h, 0, none⟩ = some (.int .i64 m) ∧ g < w.heap.size ∧ h < w.heap.size
theorem Bd.step {w w' : World} {g h : Nat} {l m : Int} (k : Bd w g h l m) (hb : Below w.heap.size w w') : Bd w' g h l m :=
  ⟨(hb.cell (p := ⟨g, 0, none⟩) k.2.2.1).trans k.1, (hb.cell (p := ⟨h, 0, none⟩) k.2.2.2).trans k.2.1, Nat.lt_of_lt_of_le k.2.2.1 hb.size, Nat.lt_of_lt_of_le k.2.2.2 hb.size⟩
theorem Bounds_any (l m : Int) (w : World) :
    Calls Tryz.prog 89 #[.int .i64 l, .int .i64 m] w fun e w' => ∃ g h, e = .returned (clo g h) ∧ Bd w' g h l m ∧ Below w.heap.size w w' := by
  refine (bounds_any l m w).mono ?_
  rintro e w' ⟨rfl, rfl⟩
  exact ⟨_, _, rfl, ⟨by simp, by simp, by simp; omega, by simp⟩, (below_lay w _).alloc (by simp) _⟩
theorem waits_any (w : World) :
    Calls Tryz.prog 92 #[] w fun e w' => ∃ g h, e = .returned (clo g h) ∧ Bd w' g h 1000 60000 ∧ Below w.heap.size w w' := by
  have K := keep (Bounds_any 1000 60000 w)
  go_enter Tryz.func92, Tryz.ntmps92
  go_wp2_with (go_at_call 89; refine K.out.mono ?_; rintro e w2 ⟨g, h, rfl, hd, hb⟩; replace hd := keep hd; replace hb := keep hb)
  go_ret
  exact ⟨g, h, rfl, hd.out, hb.out⟩
theorem fits_any (g h : Nat) (m n : Int) (hm : 0 ≤ m) (w : World) (hd : Bd w g h 0 m) :
    Calls Tryz.prog 90 #[clo g h, .int .i64 n] w fun e w' => e = .returned (.bool (inB m n)) ∧ w = w' := by
  have K := keep (clo_any 0 m n g h w hd.1 hd.2.1)
  have E : decide (held 0 m n = n) = inB m n := by
    unfold inB
    exact decide_eq_decide.2 (held_iff m n hm)
  replace E := keep E
  clear hd hm
  generalize held 0 m n = q at K E
  unfold clo
  go_enter Tryz.func90, Tryz.ntmps90
  go_wp2_with (go_at_call 125; refine K.out.mono ?_; rintro e w2 ⟨rfl, rfl⟩)
  go_ret
  exact ⟨by rw [← E.out]; rfl, rfl⟩
end
section
open Go.RowKit
structure RS where
  sm : Int
  va : Int
  wa : Int
  kn : Bool
def RS.cells (s : RS) : Array Value := #[.int .i64 s.sm, .int .i64 s.va, .int .i64 s.wa, .bool s.kn]
def RS.zero : RS := ⟨0, 0, 0, false⟩
theorem St_size_ro : (Tryz.prog.info? 59).map (·.size) = some 4 := by kernel_rfl
def RB_ro (w : World) (g : Nat) (s : RS) : Prop := w.heap[g]? = some (.cells s.cells 59 (0, 0))
theorem RB_ro.lt {w : World} {g : Nat} {s : RS} (h : RB_ro w g s) : g < w.heap.size := (Array.getElem?_eq_some_iff.1 h).1
theorem RB_ro.at_ {w : World} {g : Nat} {s : RS} (h : RB_ro w g s) (j : Nat) (v : Value) (hv : s.cells[j]? = some v) : w.cell? ⟨g, j, none⟩ = some v := by rw [cell_of_row _ _ _ _ _ _ h]; exact hv
theorem RB_ro.fz {w : World} {g : Nat} {s : RS} (h : RB_ro w g s) (j : Nat) : w.frozen? ⟨g, j, none⟩ = false := frozen_of_row w g j _ _ h
theorem RB_ro.step {w w' : World} {g : Nat} {s : RS} (h : RB_ro w g s) (hb : Below w.heap.size w w') : RB_ro w' g s := (hb.block g h.lt).trans h
theorem RB_ro.new (w : World) (s : RS) : RB_ro (w.alloc (.cells s.cells 59)) w.heap.size s := heap_alloc_new w _
theorem RB_ro.else_ {w : World} {g k j : Nat} {s : RS} (h : RB_ro w g s) (hne : g ≠ k) (v : Value) : RB_ro (w.setCell ⟨k, j, none⟩ v) g s := (heap_setCell_other w ⟨k, j, none⟩ g v hne).trans h
theorem RB_ro.sm {w : World} {g : Nat} {s : RS} (h : RB_ro w g s) (x : Int) : RB_ro (w.setCell ⟨g, 0, none⟩ (.int .i64 x)) g { s with sm := x } := heap_setCell_same w g 0 _ _ _ h
theorem RB_ro.va {w : World} {g : Nat} {s : RS} (h : RB_ro w g s) (x : Int) : RB_ro (w.setCell ⟨g, 1, none⟩ (.int .i64 x)) g { s with va := x } := heap_setCell_same w g 1 _ _ _ h
theorem RB_ro.wa {w : World} {g : Nat} {s : RS} (h : RB_ro w g s) (x : Int) : RB_ro (w.setCell ⟨g, 2, none⟩ (.int .i64 x)) g { s with wa := x } := heap_setCell_same w g 2 _ _ _ h
theorem RB_ro.kn {w : World} {g : Nat} {s : RS} (h : RB_ro w g s) (x : Bool) : RB_ro (w.setCell ⟨g, 3, none⟩ (.bool x)) g { s with kn := x } := heap_setCell_same w g 3 _ _ _ h
theorem RB_ro.all {w : World} {g : Nat} {s : RS} (h : RB_ro w g s) :
    (w.cell? ⟨g, 0, none⟩ = some (.int .i64 s.sm) ∧ w.cell? ⟨g, 1, none⟩ = some (.int .i64 s.va) ∧ w.cell? ⟨g, 2, none⟩ = some (.int .i64 s.wa) ∧ w.cell? ⟨g, 3, none⟩ = some (.bool s.kn)) ∧
    (w.frozen? ⟨g, 0, none⟩ = false ∧ w.frozen? ⟨g, 1, none⟩ = false ∧ w.frozen? ⟨g, 2, none⟩ = false ∧ w.frozen? ⟨g, 3, none⟩ = false) :=
  ⟨⟨h.at_ 0 _ rfl, h.at_ 1 _ rfl, h.at_ 2 _ rfl, h.at_ 3 _ rfl⟩, h.fz 0, h.fz 1, h.fz 2, h.fz 3⟩
theorem laid4_ro {w : World} {g : Nat} {u : RS} (h : RB_ro w g u) (a b c : Int) (d : Bool) :
    RB_ro ((((w.setCell ⟨g, 0, none⟩ (.int .i64 a)).setCell ⟨g, 1, none⟩ (.int .i64 b)).setCell ⟨g, 2, none⟩ (.int .i64 c)).setCell ⟨g, 3, none⟩ (.bool d)) g ⟨a, b, c, d⟩ := (((h.sm a).va b).wa c).kn d
theorem below4_ro {B : Nat} {a w : World} (h : Below B a w) {g : Nat} (hg : B ≤ g) (x0 x1 x2 x3 : Value) :
    Below B a ((((w.setCell ⟨g, 0, none⟩ x0).setCell ⟨g, 1, none⟩ x1).setCell ⟨g, 2, none⟩ x2).setCell ⟨g, 3, none⟩ x3) :=
  (((h.setCell (p := ⟨g, 0, none⟩) hg x0).setCell (p := ⟨g, 1, none⟩) hg x1).setCell (p := ⟨g, 2, none⟩) hg x2).setCell (p := ⟨g, 3, none⟩) hg x3
theorem ret_st_ro {fn : Func} {p : Tmp} (hr : fn.results = #[.cell p 59]) (tmps : Array Value) (w : World) (g : Nat) (s : RS) (hp : tmps.getD p undef = .pointer (some ⟨g, 0, none⟩)) (h : RB_ro w g s) :
    (results fn tmps).run Tryz.prog w = .ok (.agg s.cells) w :=
  results_cell_row hr tmps w g _ s.cells (0, 0) _ hp h Tryz.underlying59 rfl St_size_ro
def StPost_ro (w : World) (s : RS) (e : Ending) (w' : World) : Prop := e = .returned (.agg s.cells) ∧ Below w.heap.size w w'
def RS.start : RS := ⟨0, 0, 3000, false⟩
theorem Start_any_ro (w : World) : Calls Tryz.prog 50 #[] w (StPost_ro w RS.start) := by
  go_enter Tryz.func50, Tryz.ntmps50
  go_wp2_with fail
  exact bodyPost_ret (ret_st_ro rfl _ _ w.heap.size RS.start rfl (RB_ro.new w RS.start)) rfl ⟨rfl, below_lay w _⟩
def clampI (n : Int) : Int := held 1000 60000 n
theorem two_new (sm va wa : Int) (kn : Bool) (w : World) :
    RB_ro ((w.alloc (.cells #[.int .i64 sm, .int .i64 va, .int .i64 wa, .bool kn] 59)).alloc (.cells #[.int .i64 0, .int .i64 0, .int .i64 0, .bool false] 59)) w.heap.size ⟨sm, va, wa, kn⟩ ∧
    RB_ro ((w.alloc (.cells #[.int .i64 sm, .int .i64 va, .int .i64 wa, .bool kn] 59)).alloc (.cells #[.int .i64 0, .int .i64 0, .int .i64 0, .bool false] 59)) (w.heap.size + 1) RS.zero ∧
    Below w.heap.size w ((w.alloc (.cells #[.int .i64 sm, .int .i64 va, .int .i64 wa, .bool kn] 59)).alloc (.cells #[.int .i64 0, .int .i64 0, .int .i64 0, .bool false] 59)) := by
  have l1 := below_lay w (.cells #[.int .i64 sm, .int .i64 va, .int .i64 wa, .bool kn] 59)
  have R3 := RB_ro.new (w.alloc (.cells #[.int .i64 sm, .int .i64 va, .int .i64 wa, .bool kn] 59)) RS.zero
  refine ⟨(RB_ro.new w ⟨sm, va, wa, kn⟩).step (below_lay _ _), ?_, l1.alloc l1.size _⟩
  rw [show (w.alloc (.cells #[.int .i64 sm, .int .i64 va, .int .i64 wa, .bool kn] 59)).heap.size = w.heap.size + 1 by simp] at R3
  exact R3
structure Two_ro (w : World) (s u : RS) (W : World) : Prop where
  r : RB_ro W w.heap.size s
  t : RB_ro W (w.heap.size + 1) u
  below : Below w.heap.size w W
theorem Two_ro.step {w W W' : World} {s u : RS} (h : Two_ro w s u W) (hb : Below W.heap.size W W') : Two_ro w s u W' := ⟨h.r.step hb, h.t.step hb, up h.below hb⟩
theorem Two_ro.drew {w W : World} {s u : RS} (h : Two_ro w s u W) : Two_ro w s u W.drew := ⟨h.r, h.t, h.below.drew⟩
theorem Two_ro.wa {w W : World} {s u : RS} (h : Two_ro w s u W) (x : Int) : Two_ro w { s with wa := x } u (W.setCell ⟨w.heap.size, 2, none⟩ (.int .i64 x)) := ⟨h.r.wa x, h.t.else_ (by omega) _, h.below.setCell (p := ⟨w.heap.size, 2, none⟩) (Nat.le_refl _) _⟩
theorem Two_ro.sm {w W : World} {s u : RS} (h : Two_ro w s u W) (x : Int) : Two_ro w { s with sm := x } u (W.setCell ⟨w.heap.size, 0, none⟩ (.int .i64 x)) := ⟨h.r.sm x, h.t.else_ (by omega) _, h.below.setCell (p := ⟨w.heap.size, 0, none⟩) (Nat.le_refl _) _⟩
theorem Two_ro.va {w W : World} {s u : RS} (h : Two_ro w s u W) (x : Int) : Two_ro w { s with va := x } u (W.setCell ⟨w.heap.size, 1, none⟩ (.int .i64 x)) := ⟨h.r.va x, h.t.else_ (by omega) _, h.below.setCell (p := ⟨w.heap.size, 1, none⟩) (Nat.le_refl _) _⟩
theorem Two_ro.kn {w W : World} {s u : RS} (h : Two_ro w s u W) (x : Bool) : Two_ro w { s with kn := x } u (W.setCell ⟨w.heap.size, 3, none⟩ (.bool x)) := ⟨h.r.kn x, h.t.else_ (by omega) _, h.below.setCell (p := ⟨w.heap.size, 3, none⟩) (Nat.le_refl _) _⟩
theorem Two_ro.new (sm va wa : Int) (kn : Bool) (w : World) : Two_ro w ⟨sm, va, wa, kn⟩ RS.zero ((w.alloc (.cells #[.int .i64 sm, .int .i64 va, .int .i64 wa, .bool kn] 59)).alloc (.cells #[.int .i64 0, .int .i64 0, .int .i64 0, .bool false] 59)) := ⟨(two_new sm va wa kn w).1, (two_new sm va wa kn w).2.1, (two_new sm va wa kn w).2.2⟩
theorem Two_ro.ret {w W : World} {sm va wa : Int} {kn : Bool} {u : RS} (h : Two_ro w ⟨sm, va, wa, kn⟩ u W) {fn : Func} {p : Tmp} (hr : fn.results = #[.cell p 59]) {a : Act} (hd : a.defers = []) (hp : a.tmps.getD p undef = .pointer (some ⟨w.heap.size + 1, 0, none⟩)) :
    bodyPost Tryz.prog fn (StPost_ro w ⟨sm, va, wa, kn⟩) Exit.ret a ((((W.setCell ⟨w.heap.size + 1, 0, none⟩ (.int .i64 sm)).setCell ⟨w.heap.size + 1, 1, none⟩ (.int .i64 va)).setCell ⟨w.heap.size + 1, 2, none⟩ (.int .i64 wa)).setCell ⟨w.heap.size + 1, 3, none⟩ (.bool kn)) :=
  bodyPost_ret (ret_st_ro hr _ _ _ _ hp (laid4_ro h.t sm va wa kn)) hd ⟨rfl, below4_ro h.below (by omega) _ _ _ _⟩
theorem wrap_in_ro (x : Int) (h : -9223372036854775808 ≤ x ∧ x ≤ 9223372036854775807) : IntKind.i64.wrap x = x ∧ wrap64 x = x := by
  constructor <;> simp [IntKind.wrap, IntKind.signed, IntKind.bits, wrap64] <;> omega
theorem inB_iff {m n : Int} : inB m n = true ↔ 0 ≤ n ∧ n ≤ m := by simp [inB]
end
end Go.Proofs.YtnlkdlnmffibhaaGreat
