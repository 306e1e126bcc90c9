/- Package rto: a state as four cells; Start and Back. -/
import Derived.Test.YtkpbaoiaebdngaaRo1
import Derived.Deep.RegionHeld3
namespace Go.Proofs.Ytkpbaoiaebdngaa
open Go.RowKit
set_option linter.unusedVariables false

structure RS where
  sm : Int
  va : Int
  wa : Int
  kn : Bool
def RS.cells (s : RS) : Array Value := #[.int .i64 s.sm, .int .i64 s.va, .int .i64 s.wa, .bool s.kn]
def RS.zero : RS := ⟨0, 0, 0, false⟩
theorem St_size : (Try.prog.info? 23).map (·.size) = some 4 := by kernel_rfl
/-- A state's block. -/
def RB (w : World) (g : Nat) (s : RS) : Prop := w.heap[g]? = some (.cells s.cells 23 (0, 0))
theorem RB.lt {w : World} {g : Nat} {s : RS} (h : RB w g s) : g < w.heap.size := (Array.getElem?_eq_some_iff.1 h).1
theorem RB.at_ {w : World} {g : Nat} {s : RS} (h : RB w g s) (j : Nat) (v : Value) (hv : s.cells[j]? = some v) : w.cell? ⟨g, j, none⟩ = some v := by rw [cell_of_row _ _ _ _ _ _ h]; exact hv
theorem RB.fz {w : World} {g : Nat} {s : RS} (h : RB w g s) (j : Nat) : w.frozen? ⟨g, j, none⟩ = false := frozen_of_row w g j _ _ h
theorem RB.step {w w' : World} {g : Nat} {s : RS} (h : RB w g s) (hb : Below w.heap.size w w') : RB w' g s := (hb.block g h.lt).trans h
theorem RB.drew {w : World} {g : Nat} {s : RS} (h : RB w g s) : RB w.drew g s := h
theorem RB.new (w : World) (s : RS) : RB (w.alloc (.cells s.cells 23)) w.heap.size s := heap_alloc_new w _
theorem RB.else_ {w : World} {g k j : Nat} {s : RS} (h : RB w g s) (hne : g ≠ k) (v : Value) : RB (w.setCell ⟨k, j, none⟩ v) g s := (heap_setCell_other w ⟨k, j, none⟩ g v hne).trans h
theorem RB.sm {w : World} {g : Nat} {s : RS} (h : RB w g s) (x : Int) : RB (w.setCell ⟨g, 0, none⟩ (.int .i64 x)) g { s with sm := x } := heap_setCell_same w g 0 _ _ _ h
theorem RB.va {w : World} {g : Nat} {s : RS} (h : RB w g s) (x : Int) : RB (w.setCell ⟨g, 1, none⟩ (.int .i64 x)) g { s with va := x } := heap_setCell_same w g 1 _ _ _ h
theorem RB.wa {w : World} {g : Nat} {s : RS} (h : RB w g s) (x : Int) : RB (w.setCell ⟨g, 2, none⟩ (.int .i64 x)) g { s with wa := x } := heap_setCell_same w g 2 _ _ _ h
theorem RB.kn {w : World} {g : Nat} {s : RS} (h : RB w g s) (x : Bool) : RB (w.setCell ⟨g, 3, none⟩ (.bool x)) g { s with kn := x } := heap_setCell_same w g 3 _ _ _ h
theorem RB.all {w : World} {g : Nat} {s : RS} (h : RB w g s) :
    (w.cell? ⟨g, 0, none⟩ = some (.int .i64 s.sm) ∧ w.cell? ⟨g, 1, none⟩ = some (.int .i64 s.va) ∧ w.cell? ⟨g, 2, none⟩ = some (.int .i64 s.wa) ∧ w.cell? ⟨g, 3, none⟩ = some (.bool s.kn)) ∧
    (w.frozen? ⟨g, 0, none⟩ = false ∧ w.frozen? ⟨g, 1, none⟩ = false ∧ w.frozen? ⟨g, 2, none⟩ = false ∧ w.frozen? ⟨g, 3, none⟩ = false) :=
  ⟨⟨h.at_ 0 _ rfl, h.at_ 1 _ rfl, h.at_ 2 _ rfl, h.at_ 3 _ rfl⟩, h.fz 0, h.fz 1, h.fz 2, h.fz 3⟩
/-- A state is laid over another one. -/
theorem laid4 {w : World} {g : Nat} {u : RS} (h : RB w g u) (a b c : Int) (d : Bool) :
    RB ((((w.setCell ⟨g, 0, none⟩ (.int .i64 a)).setCell ⟨g, 1, none⟩ (.int .i64 b)).setCell ⟨g, 2, none⟩ (.int .i64 c)).setCell ⟨g, 3, none⟩ (.bool d)) g ⟨a, b, c, d⟩ := (((h.sm a).va b).wa c).kn d
theorem below4 {B : Nat} {a w : World} (h : Below B a w) {g : Nat} (hg : B ≤ g) (x0 x1 x2 x3 : Value) :
    Below B a ((((w.setCell ⟨g, 0, none⟩ x0).setCell ⟨g, 1, none⟩ x1).setCell ⟨g, 2, none⟩ x2).setCell ⟨g, 3, none⟩ x3) :=
  (((h.setCell (p := ⟨g, 0, none⟩) hg x0).setCell (p := ⟨g, 1, none⟩) hg x1).setCell (p := ⟨g, 2, none⟩) hg x2).setCell (p := ⟨g, 3, none⟩) hg x3
/-- A function that hands back the state of its block. -/
theorem ret_st {fn : Func} {p : Tmp} (hr : fn.results = #[.cell p 23]) (tmps : Array Value) (w : World) (g : Nat) (s : RS) (hp : tmps.getD p undef = .pointer (some ⟨g, 0, none⟩)) (h : RB w g s) :
    (results fn tmps).run Try.prog w = .ok (.agg s.cells) w :=
  results_cell_row hr tmps w g _ s.cells (0, 0) _ hp h Try.underlying23 rfl St_size
/-- What a call that hands back a state leaves. -/
def StPost (w : World) (s : RS) (e : Ending) (w' : World) : Prop := e = .returned (.agg s.cells) ∧ Below w.heap.size w w'

def RS.start : RS := ⟨0, 0, 3000, false⟩
theorem Start_any (w : World) : Calls Try.prog 13 #[] w (StPost w RS.start) := by
  go_enter Try.func13, Try.ntmps13
  go_wp2_with fail
  exact bodyPost_ret (ret_st rfl _ _ w.heap.size RS.start rfl (RB.new w RS.start)) rfl ⟨rfl, below_lay w _⟩

def clampI (n : Int) : Int := held 1000 60000 n
def RS.back (s : RS) : RS := { s with wa := if inB 2147483648 s.wa = true then clampI (2 * s.wa) else s.wa }

/-- The world in which a function that takes a state and hands one back begins. -/
theorem two_new (sm va wa : Int) (kn : Bool) (w : World) :
    RB ((w.alloc (.cells #[.int .i64 sm, .int .i64 va, .int .i64 wa, .bool kn] 23)).alloc (.cells #[.int .i64 0, .int .i64 0, .int .i64 0, .bool false] 23)) w.heap.size ⟨sm, va, wa, kn⟩ ∧
    RB ((w.alloc (.cells #[.int .i64 sm, .int .i64 va, .int .i64 wa, .bool kn] 23)).alloc (.cells #[.int .i64 0, .int .i64 0, .int .i64 0, .bool false] 23)) (w.heap.size + 1) RS.zero ∧
    Below w.heap.size w ((w.alloc (.cells #[.int .i64 sm, .int .i64 va, .int .i64 wa, .bool kn] 23)).alloc (.cells #[.int .i64 0, .int .i64 0, .int .i64 0, .bool false] 23)) := by
  have l1 := below_lay w (.cells #[.int .i64 sm, .int .i64 va, .int .i64 wa, .bool kn] 23)
  have R3 := RB.new (w.alloc (.cells #[.int .i64 sm, .int .i64 va, .int .i64 wa, .bool kn] 23)) RS.zero
  refine ⟨(RB.new w ⟨sm, va, wa, kn⟩).step (below_lay _ _), ?_, l1.alloc l1.size _⟩
  rw [show (w.alloc (.cells #[.int .i64 sm, .int .i64 va, .int .i64 wa, .bool kn] 23)).heap.size = w.heap.size + 1 by simp] at R3
  exact R3
/-- Both blocks, and what lies below. -/
structure Two (w : World) (s u : RS) (W : World) : Prop where
  r : RB W w.heap.size s
  t : RB W (w.heap.size + 1) u
  below : Below w.heap.size w W
theorem Two.step {w W W' : World} {s u : RS} (h : Two w s u W) (hb : Below W.heap.size W W') : Two w s u W' := ⟨h.r.step hb, h.t.step hb, up h.below hb⟩
theorem Two.drew {w W : World} {s u : RS} (h : Two w s u W) : Two w s u W.drew := ⟨h.r, h.t, h.below.drew⟩
theorem Two.wa {w W : World} {s u : RS} (h : Two w s u W) (x : Int) : Two w { s with wa := x } u (W.setCell ⟨w.heap.size, 2, none⟩ (.int .i64 x)) := ⟨h.r.wa x, h.t.else_ (by omega) _, h.below.setCell (p := ⟨w.heap.size, 2, none⟩) (Nat.le_refl _) _⟩
theorem Two.sm {w W : World} {s u : RS} (h : Two w s u W) (x : Int) : Two w { s with sm := x } u (W.setCell ⟨w.heap.size, 0, none⟩ (.int .i64 x)) := ⟨h.r.sm x, h.t.else_ (by omega) _, h.below.setCell (p := ⟨w.heap.size, 0, none⟩) (Nat.le_refl _) _⟩
theorem Two.va {w W : World} {s u : RS} (h : Two w s u W) (x : Int) : Two w { s with va := x } u (W.setCell ⟨w.heap.size, 1, none⟩ (.int .i64 x)) := ⟨h.r.va x, h.t.else_ (by omega) _, h.below.setCell (p := ⟨w.heap.size, 1, none⟩) (Nat.le_refl _) _⟩
theorem Two.kn {w W : World} {s u : RS} (h : Two w s u W) (x : Bool) : Two w { s with kn := x } u (W.setCell ⟨w.heap.size, 3, none⟩ (.bool x)) := ⟨h.r.kn x, h.t.else_ (by omega) _, h.below.setCell (p := ⟨w.heap.size, 3, none⟩) (Nat.le_refl _) _⟩
theorem Two.new (sm va wa : Int) (kn : Bool) (w : World) : Two w ⟨sm, va, wa, kn⟩ RS.zero ((w.alloc (.cells #[.int .i64 sm, .int .i64 va, .int .i64 wa, .bool kn] 23)).alloc (.cells #[.int .i64 0, .int .i64 0, .int .i64 0, .bool false] 23)) := ⟨(two_new sm va wa kn w).1, (two_new sm va wa kn w).2.1, (two_new sm va wa kn w).2.2⟩
theorem Two.ret {w W : World} {sm va wa : Int} {kn : Bool} {u : RS} (h : Two w ⟨sm, va, wa, kn⟩ u W) {fn : Func} {p : Tmp} (hr : fn.results = #[.cell p 23]) {a : Act} (hd : a.defers = []) (hp : a.tmps.getD p undef = .pointer (some ⟨w.heap.size + 1, 0, none⟩)) :
    bodyPost Try.prog fn (StPost w ⟨sm, va, wa, kn⟩) Exit.ret a ((((W.setCell ⟨w.heap.size + 1, 0, none⟩ (.int .i64 sm)).setCell ⟨w.heap.size + 1, 1, none⟩ (.int .i64 va)).setCell ⟨w.heap.size + 1, 2, none⟩ (.int .i64 wa)).setCell ⟨w.heap.size + 1, 3, none⟩ (.bool kn)) :=
  bodyPost_ret (ret_st hr _ _ _ _ hp (laid4 h.t sm va wa kn)) hd ⟨rfl, below4 h.below (by omega) _ _ _ _⟩

set_option maxHeartbeats 1000000 in
theorem Back_no (s : RS) (hs : inB 2147483648 s.wa = false) (w : World) : Calls Try.prog 11 #[.agg s.cells] w (StPost w s) := by
  obtain ⟨sm, va, wa, kn⟩ := s
  dsimp only [RS.cells] at hs ⊢
  replace hs := keep hs
  have T := Two.new sm va wa kn w
  have c2 := T.r.at_ 2 (.int .i64 wa) rfl
  replace T := keep T
  have K1 := keep (fun w => Bounds_any 0 2147483648 w)
  have K2 := keep (fun g h w hd => fits_any g h 2147483648 wa (by decide) w hd)
  rw [hs.out] at K2
  go_enter Try.func11, Try.ntmps11
  go_wp2_with fail
  go_region_with (first
    | (go_at_call 14; refine (K1.out _).mono ?_; rintro e w3 ⟨g, h, rfl, hd, hb⟩
       have c3 := (hb.cell (p := ⟨w.heap.size, 2, none⟩) (by simp; omega)).trans c2
       have T3 := T.out.drew.step hb
       obtain ⟨⟨d0, d1, d2, d3⟩, _⟩ := T3.r.all
       obtain ⟨⟨x0, x1, x2, x3⟩, f0, f1, f2, f3⟩ := T3.t.all
       dsimp only [RS.zero] at d0 d1 d2 d3 x0 x1 x2 x3
       replace T3 := keep T3
       replace hd := keep hd
       clear hb)
    | (go_at_call 15; refine (K2.out _ _ _ hd.out).mono ?_; rintro e w4 ⟨rfl, rfl⟩))
  all_goals (try go_wp2_with fail)
  all_goals exact T3.out.ret rfl rfl rfl

theorem wrap_in (x : Int) (h : -9223372036854775808 ≤ x ∧ x ≤ 9223372036854775807) : IntKind.i64.wrap x = x ∧ wrap64 x = x := by
  constructor <;> simp [IntKind.wrap, IntKind.signed, IntKind.bits, wrap64] <;> omega
theorem inB_iff {m n : Int} : inB m n = true ↔ 0 ≤ n ∧ n ≤ m := by simp [inB]

set_option maxHeartbeats 1000000 in
theorem Back_yes (s : RS) (hs : inB 2147483648 s.wa = true) (w : World) : Calls Try.prog 11 #[.agg s.cells] w (StPost w { s with wa := clampI (2 * s.wa) }) := by
  obtain ⟨sm, va, wa, kn⟩ := s
  dsimp only [RS.cells] at hs ⊢
  have hb0 := inB_iff.1 hs
  obtain ⟨e1, e2⟩ := wrap_in (2 * wa) (by omega)
  clear hb0
  replace hs := keep hs
  have T := Two.new sm va wa kn w
  have c2 := T.r.at_ 2 (.int .i64 wa) rfl
  replace T := keep T
  have K1 := keep (fun w => Bounds_any 0 2147483648 w)
  have K2 := keep (fun g h w hd => fits_any g h 2147483648 wa (by decide) w hd)
  rw [hs.out] at K2
  have K3 := keep (fun g h w (hd : Bd w g h 1000 60000) => clo_any 1000 60000 (2 * wa) g h w hd.1 hd.2.1)
  have K4 := keep (fun w => waits_any w)
  have hcl : held 1000 60000 (2 * wa) = clampI (2 * wa) := rfl
  rw [hcl] at K3
  clear hcl
  generalize clampI (2 * wa) = y at K3 ⊢
  go_enter Try.func11, Try.ntmps11
  go_wp2_with fail
  go_region_with (first
    | (go_at_call 14; refine (K1.out _).mono ?_; rintro e w3 ⟨g, h, rfl, hd, hb⟩
       have T3 := T.out.drew.step hb
       have c3 := T3.r.at_ 2 (.int .i64 wa) rfl
       replace T3 := keep T3
       replace hd := keep hd
       clear hb K1)
    | (go_at_call 15; refine (K2.out _ _ _ hd.out).mono ?_; rintro e w4 ⟨rfl, rfl⟩))
  all_goals (try go_wp2_with fail)
  all_goals
    clear c2 T hd K2
    go_region_with (first
      | (go_at_call 17; refine (K4.out _).mono ?_; rintro e w5 ⟨g5, h5, rfl, hd5, hb5⟩
         have T5 := T3.out.drew.step hb5
         have c5 := T5.r.at_ 2 (.int .i64 wa) rfl
         have f5 := T5.r.fz 2
         have T6 := T5.wa y
         obtain ⟨⟨d0, d1, d2, d3⟩, _⟩ := T6.r.all
         obtain ⟨⟨x0, x1, x2, x3⟩, f0, f1, f2, f3⟩ := T6.t.all
         dsimp only [RS.zero] at d0 d1 d2 d3 x0 x1 x2 x3
         replace T6 := keep T6
         replace hd5 := keep hd5
         clear hb5 T5 T3 K4 c3
         unfold clo)
      | (go_at_call 19; refine (K3.out _ _ _ hd5.out).mono ?_; rintro e w6 ⟨rfl, rfl⟩))
  all_goals (try go_wp2_with fail)
  all_goals exact T6.out.ret rfl rfl rfl
theorem Back_any (s : RS) (w : World) : Calls Try.prog 11 #[.agg s.cells] w (StPost w s.back) := by
  unfold RS.back
  rcases h : inB 2147483648 s.wa with _ | _
  · exact Back_no s h w
  · exact Back_yes s h w
end Go.Proofs.Ytkpbaoiaebdngaa
