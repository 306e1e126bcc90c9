/- KAV of the stage: texts Pc2, joined. -/
import Derived.Test.YtnlkdlnmffibhaaGreatKAU
set_option linter.unusedSimpArgs false
set_option linter.unusedVariables false
set_option maxRecDepth 8000
namespace Go.Proofs.YtnlkdlnmffibhaaGreat
open List renaming setIfInBounds_toArray → lA, set_cons_zero → lZ, set_cons_succ → lS
open Go renaming wpAnyH_take → wT
open Go.Act renaming put → aP
section
open Go.RowKit
structure FF (w0 : World) (g h : Nat) (X Y : Array Value) (W : World) : Prop where
  a : W.heap[g]? = some (.cells X 41 (0, 0))
  b : W.heap[h]? = some (.cells Y 41 (0, 0))
  below : Below w0.heap.size w0 W
theorem FF.step {w0 W W' : World} {g h : Nat} {X Y : Array Value} (H : FF w0 g h X Y W) (hb : Below W.heap.size W W') : FF w0 g h X Y W' :=
  ⟨(hb.block g (Array.getElem?_eq_some_iff.1 H.a).1).trans H.a, (hb.block h (Array.getElem?_eq_some_iff.1 H.b).1).trans H.b, up H.below hb⟩
theorem FF.drew {w0 W : World} {g h : Nat} {X Y : Array Value} (H : FF w0 g h X Y W) : FF w0 g h X Y W.drew := ⟨H.a, H.b, H.below.drew⟩
theorem FF.cells {w0 W : World} {g h : Nat} {a0 a1 a2 a3 a4 a5 a6 a7 a8 a9 a10 a11 b0 b1 b2 b3 b4 b5 b6 b7 b8 b9 b10 b11 : Value} (H : FF w0 g h #[a0, a1, a2, a3, a4, a5, a6, a7, a8, a9, a10, a11] #[b0, b1, b2, b3, b4, b5, b6, b7, b8, b9, b10, b11] W) :
    W.cell? ⟨g, 0, none⟩ = some a0 ∧ W.cell? ⟨g, 1, none⟩ = some a1 ∧ W.cell? ⟨g, 2, none⟩ = some a2 ∧ W.cell? ⟨g, 3, none⟩ = some a3 ∧ W.cell? ⟨g, 4, none⟩ = some a4 ∧ W.cell? ⟨g, 5, none⟩ = some a5 ∧ W.cell? ⟨g, 6, none⟩ = some a6 ∧ W.cell? ⟨g, 7, none⟩ = some a7 ∧ W.cell? ⟨g, 8, none⟩ = some a8 ∧ W.cell? ⟨g, 9, none⟩ = some a9 ∧ W.cell? ⟨g, 10, none⟩ = some a10 ∧ W.cell? ⟨g, 11, none⟩ = some a11 ∧ W.cell? ⟨h, 0, none⟩ = some b0 ∧ W.cell? ⟨h, 1, none⟩ = some b1 ∧ W.cell? ⟨h, 2, none⟩ = some b2 ∧ W.cell? ⟨h, 3, none⟩ = some b3 ∧ W.cell? ⟨h, 4, none⟩ = some b4 ∧ W.cell? ⟨h, 5, none⟩ = some b5 ∧ W.cell? ⟨h, 6, none⟩ = some b6 ∧ W.cell? ⟨h, 7, none⟩ = some b7 ∧ W.cell? ⟨h, 8, none⟩ = some b8 ∧ W.cell? ⟨h, 9, none⟩ = some b9 ∧ W.cell? ⟨h, 10, none⟩ = some b10 ∧ W.cell? ⟨h, 11, none⟩ = some b11 := by
  refine ⟨?_, ?_, ?_, ?_, ?_, ?_, ?_, ?_, ?_, ?_, ?_, ?_, ?_, ?_, ?_, ?_, ?_, ?_, ?_, ?_, ?_, ?_, ?_, ?_⟩
  all_goals first | (rw [cell_of_row _ _ _ _ _ _ H.a]; rfl) | (rw [cell_of_row _ _ _ _ _ _ H.b]; rfl)
section
variable {xk xf xa xo xs xp yk yf ya yo ys yp z : Int} {a3 a7 a8 a9 a10 a11 b3 b7 b8 b9 b10 b11 : Value}
set_option maxRecDepth 100000 in
set_option maxHeartbeats 4000000 in
theorem Follows_cells (u1 u2 u3 u4 u5 u6 p q u7 u8 u9 : Bool) (h1 : (xk == 0) = u1) (h2 : (yk == 0) = u2) (hz : IntKind.u32.wrap (xa + 1) = z) (h3 : (ya == z) = u3) (h4 : (xo == yo) = u4) (h5 : (xs == ys) = u5) (h6 : (xp == yp) = u6) (h7 : (p == q) = u7)
    (K4a : Hid (∀ w : World, Calls Tryz.prog 153 #[.agg #[.int .u8 xk, .int .u8 xf, .int .u32 xa, a3, .int .u16 xo, .int .u16 xs, .int .u32 xp, a7, a8, a9, a10, a11], .int .u8 4] w fun e w' => e = .returned (.bool p) ∧ Below w.heap.size w w')) (K4b : Hid (∀ w : World, Calls Tryz.prog 153 #[.agg #[.int .u8 yk, .int .u8 yf, .int .u32 ya, b3, .int .u16 yo, .int .u16 ys, .int .u32 yp, b7, b8, b9, b10, b11], .int .u8 4] w fun e w' => e = .returned (.bool q) ∧ Below w.heap.size w w')) (K1a : Hid (∀ w : World, Calls Tryz.prog 153 #[.agg #[.int .u8 xk, .int .u8 xf, .int .u32 xa, a3, .int .u16 xo, .int .u16 xs, .int .u32 xp, a7, a8, a9, a10, a11], .int .u8 1] w fun e w' => e = .returned (.bool u8) ∧ Below w.heap.size w w')) (K2b : Hid (∀ w : World, Calls Tryz.prog 153 #[.agg #[.int .u8 yk, .int .u8 yf, .int .u32 ya, b3, .int .u16 yo, .int .u16 ys, .int .u32 yp, b7, b8, b9, b10, b11], .int .u8 2] w fun e w' => e = .returned (.bool u9) ∧ Below w.heap.size w w')) (w : World) :
    Calls Tryz.prog 151 #[.agg #[.int .u8 xk, .int .u8 xf, .int .u32 xa, a3, .int .u16 xo, .int .u16 xs, .int .u32 xp, a7, a8, a9, a10, a11], .agg #[.int .u8 yk, .int .u8 yf, .int .u32 ya, b3, .int .u16 yo, .int .u16 ys, .int .u32 yp, b7, b8, b9, b10, b11]] w fun e w' => e = .returned (.bool (u1 && u2 && u3 && u4 && u5 && u6 && u7 && !u8 && !u9)) ∧ Below w.heap.size w w' := by
  go_enter Tryz.func151, Tryz.ntmps151
  go_wp2_with fail
  have R1 : ((w.alloc (.cells #[.int .u8 xk, .int .u8 xf, .int .u32 xa, a3, .int .u16 xo, .int .u16 xs, .int .u32 xp, a7, a8, a9, a10, a11] 41)).alloc (.cells #[.int .u8 yk, .int .u8 yf, .int .u32 ya, b3, .int .u16 yo, .int .u16 ys, .int .u32 yp, b7, b8, b9, b10, b11] 41)).heap[w.heap.size]? = some (.cells #[.int .u8 xk, .int .u8 xf, .int .u32 xa, a3, .int .u16 xo, .int .u16 xs, .int .u32 xp, a7, a8, a9, a10, a11] 41 (0, 0)) := ((below_lay _ _).block w.heap.size (by simp)).trans (heap_alloc_new w _)
  have R2 : ((w.alloc (.cells #[.int .u8 xk, .int .u8 xf, .int .u32 xa, a3, .int .u16 xo, .int .u16 xs, .int .u32 xp, a7, a8, a9, a10, a11] 41)).alloc (.cells #[.int .u8 yk, .int .u8 yf, .int .u32 ya, b3, .int .u16 yo, .int .u16 ys, .int .u32 yp, b7, b8, b9, b10, b11] 41)).heap[w.heap.size + 1]? = some (.cells #[.int .u8 yk, .int .u8 yf, .int .u32 ya, b3, .int .u16 yo, .int .u16 ys, .int .u32 yp, b7, b8, b9, b10, b11] 41 (0, 0)) := by
    have := heap_alloc_new (w.alloc (.cells #[.int .u8 xk, .int .u8 xf, .int .u32 xa, a3, .int .u16 xo, .int .u16 xs, .int .u32 xp, a7, a8, a9, a10, a11] 41)) (.cells #[.int .u8 yk, .int .u8 yf, .int .u32 ya, b3, .int .u16 yo, .int .u16 ys, .int .u32 yp, b7, b8, b9, b10, b11] 41)
    rwa [World.size_alloc] at this
  have H := keep (FF.drew ⟨R1, R2, lay2 w _ _⟩)
  clear R1 R2
  generalize (w.alloc _).alloc _ = W at H ⊢
  refine wp_region_held_drew (S := (fun w' => w'.cell? ⟨w.heap.size, 0, none⟩ = some (.int .u8 xk) ∧ w'.cell? ⟨w.heap.size, 1, none⟩ = some (.int .u8 xf) ∧ w'.cell? ⟨w.heap.size, 2, none⟩ = some (.int .u32 xa) ∧ w'.cell? ⟨w.heap.size, 3, none⟩ = some (a3) ∧ w'.cell? ⟨w.heap.size, 4, none⟩ = some (.int .u16 xo) ∧ w'.cell? ⟨w.heap.size, 5, none⟩ = some (.int .u16 xs) ∧ w'.cell? ⟨w.heap.size, 6, none⟩ = some (.int .u32 xp) ∧ w'.cell? ⟨w.heap.size, 7, none⟩ = some (a7) ∧ w'.cell? ⟨w.heap.size, 8, none⟩ = some (a8) ∧ w'.cell? ⟨w.heap.size, 9, none⟩ = some (a9) ∧ w'.cell? ⟨w.heap.size, 10, none⟩ = some (a10) ∧ w'.cell? ⟨w.heap.size, 11, none⟩ = some (a11) ∧ w'.cell? ⟨w.heap.size + 1, 0, none⟩ = some (.int .u8 yk) ∧ w'.cell? ⟨w.heap.size + 1, 1, none⟩ = some (.int .u8 yf) ∧ w'.cell? ⟨w.heap.size + 1, 2, none⟩ = some (.int .u32 ya) ∧ w'.cell? ⟨w.heap.size + 1, 3, none⟩ = some (b3) ∧ w'.cell? ⟨w.heap.size + 1, 4, none⟩ = some (.int .u16 yo) ∧ w'.cell? ⟨w.heap.size + 1, 5, none⟩ = some (.int .u16 ys) ∧ w'.cell? ⟨w.heap.size + 1, 6, none⟩ = some (.int .u32 yp) ∧ w'.cell? ⟨w.heap.size + 1, 7, none⟩ = some (b7) ∧ w'.cell? ⟨w.heap.size + 1, 8, none⟩ = some (b8) ∧ w'.cell? ⟨w.heap.size + 1, 9, none⟩ = some (b9) ∧ w'.cell? ⟨w.heap.size + 1, 10, none⟩ = some (b10) ∧ w'.cell? ⟨w.heap.size + 1, 11, none⟩ = some (b11))) (by kernel_rfl) H.out.cells (fun hHeld => ?_)
  refine wT (i := 0) (oi := ⟨some 5, _, _, _, _, _⟩) (v := ?va1x0) rfl (by kernel_rfl) (by kernel_rfl) (by kernel_rfl) (fun _ _ _ h => h) (Or.inl ⟨by rfl, ?hya1x0⟩) (by assumption) ?ra1x0
  case hya1x0 => (intro wz hSw; (try dsimp only at hSw); go_simp <;> try with_reducible rfl)
  try simp only [aP, lA, lZ, lS]
  refine wT (i := 1) (oi := ⟨some 6, _, _, _, _, _⟩) (v := ?va2x1) rfl (by kernel_rfl) (by kernel_rfl) (by kernel_rfl) (fun _ _ _ h => h) (Or.inl ⟨by rfl, ?hya2x1⟩) (by assumption) ?ra2x1
  case hya2x1 => (intro wz hSw; (try dsimp only at hSw); go_simp <;> try with_reducible rfl)
  try simp only [aP, lA, lZ, lS]
  refine wT (i := 2) (oi := ⟨some 7, _, _, _, _, _⟩) (v := ?va3x2) rfl (by kernel_rfl) (by kernel_rfl) (by kernel_rfl) (fun _ _ _ h => h) (Or.inl ⟨by rfl, ?hya3x2⟩) (by assumption) ?ra3x2
  case hya3x2 => (intro wz hSw; (try dsimp only at hSw); go_simp <;> try with_reducible rfl)
  try simp only [aP, lA, lZ, lS]
  cases u1
  · refine wT (i := 3) (oi := ⟨some 8, _, _, _, _, _⟩) (v := ?va5x3) rfl (by kernel_rfl) (by kernel_rfl) (by kernel_rfl) (fun _ _ _ h => h) (Or.inl ⟨by rfl, ?hya5x3⟩) (by assumption) ?ra5x3
    case hya5x3 => (intro wz hSw; (try dsimp only at hSw); go_simp <;> try with_reducible rfl)
    try simp only [aP, lA, lZ, lS]
    refine wT (i := 4) (oi := ⟨some 9, _, _, _, _, _⟩) (v := undef) rfl (by kernel_rfl) (by kernel_rfl) (by kernel_rfl) (fun _ _ _ h => h) (Or.inr ⟨by rfl, rfl⟩) (by assumption) ?_
    try simp only [aP, lA, lZ, lS]
    refine wT (i := 5) (oi := ⟨some 10, _, _, _, _, _⟩) (v := undef) rfl (by kernel_rfl) (by kernel_rfl) (by kernel_rfl) (fun _ _ _ h => h) (Or.inr ⟨by rfl, rfl⟩) (by assumption) ?_
    try simp only [aP, lA, lZ, lS]
    refine wT (i := 6) (oi := ⟨some 11, _, _, _, _, _⟩) (v := undef) rfl (by kernel_rfl) (by kernel_rfl) (by kernel_rfl) (fun _ _ _ h => h) (Or.inr ⟨by rfl, rfl⟩) (by assumption) ?_
    try simp only [aP, lA, lZ, lS]
    refine wT (i := 7) (oi := ⟨some 12, _, _, _, _, _⟩) (v := ?va6x7) rfl (by kernel_rfl) (by kernel_rfl) (by kernel_rfl) (fun _ _ _ h => h) (Or.inl ⟨by rfl, ?hya6x7⟩) (by assumption) ?ra6x7
    case hya6x7 => (intro wz hSw; (try dsimp only at hSw); go_simp <;> try with_reducible rfl)
    try simp only [aP, lA, lZ, lS]
    refine wT (i := 8) (oi := ⟨some 13, _, _, _, _, _⟩) (v := ?va7x8) rfl (by kernel_rfl) (by kernel_rfl) (by kernel_rfl) (fun _ _ _ h => h) (Or.inl ⟨by rfl, ?hya7x8⟩) (by assumption) ?ra7x8
    case hya7x8 => (intro wz hSw; (try dsimp only at hSw); go_simp <;> try with_reducible rfl)
    try simp only [aP, lA, lZ, lS]
    refine wT (i := 9) (oi := ⟨some 14, _, _, _, _, _⟩) (v := undef) rfl (by kernel_rfl) (by kernel_rfl) (by kernel_rfl) (fun _ _ _ h => h) (Or.inr ⟨by rfl, rfl⟩) (by assumption) ?_
    try simp only [aP, lA, lZ, lS]
    refine wT (i := 10) (oi := ⟨some 15, _, _, _, _, _⟩) (v := undef) rfl (by kernel_rfl) (by kernel_rfl) (by kernel_rfl) (fun _ _ _ h => h) (Or.inr ⟨by rfl, rfl⟩) (by assumption) ?_
    try simp only [aP, lA, lZ, lS]
    refine wT (i := 11) (oi := ⟨some 16, _, _, _, _, _⟩) (v := undef) rfl (by kernel_rfl) (by kernel_rfl) (by kernel_rfl) (fun _ _ _ h => h) (Or.inr ⟨by rfl, rfl⟩) (by assumption) ?_
    try simp only [aP, lA, lZ, lS]
    refine wT (i := 12) (oi := ⟨some 17, _, _, _, _, _⟩) (v := undef) rfl (by kernel_rfl) (by kernel_rfl) (by kernel_rfl) (fun _ _ _ h => h) (Or.inr ⟨by rfl, rfl⟩) (by assumption) ?_
    try simp only [aP, lA, lZ, lS]
    refine wT (i := 13) (oi := ⟨some 18, _, _, _, _, _⟩) (v := undef) rfl (by kernel_rfl) (by kernel_rfl) (by kernel_rfl) (fun _ _ _ h => h) (Or.inr ⟨by rfl, rfl⟩) (by assumption) ?_
    try simp only [aP, lA, lZ, lS]
    refine wT (i := 14) (oi := ⟨some 19, _, _, _, _, _⟩) (v := undef) rfl (by kernel_rfl) (by kernel_rfl) (by kernel_rfl) (fun _ _ _ h => h) (Or.inr ⟨by rfl, rfl⟩) (by assumption) ?_
    try simp only [aP, lA, lZ, lS]
    refine wT (i := 15) (oi := ⟨some 20, _, _, _, _, _⟩) (v := ?va8x15) rfl (by kernel_rfl) (by kernel_rfl) (by kernel_rfl) (fun _ _ _ h => h) (Or.inl ⟨by rfl, ?hya8x15⟩) (by assumption) ?ra8x15
    case hya8x15 => (intro wz hSw; (try dsimp only at hSw); go_simp <;> try with_reducible rfl)
    try simp only [aP, lA, lZ, lS]
    refine wT (i := 16) (oi := ⟨some 21, _, _, _, _, _⟩) (v := ?va9x16) rfl (by kernel_rfl) (by kernel_rfl) (by kernel_rfl) (fun _ _ _ h => h) (Or.inl ⟨by rfl, ?hya9x16⟩) (by assumption) ?ra9x16
    case hya9x16 => (intro wz hSw; (try dsimp only at hSw); go_simp <;> try with_reducible rfl)
    try simp only [aP, lA, lZ, lS]
    refine wT (i := 17) (oi := ⟨some 22, _, _, _, _, _⟩) (v := undef) rfl (by kernel_rfl) (by kernel_rfl) (by kernel_rfl) (fun _ _ _ h => h) (Or.inr ⟨by rfl, rfl⟩) (by assumption) ?_
    try simp only [aP, lA, lZ, lS]
    refine wT (i := 18) (oi := ⟨some 23, _, _, _, _, _⟩) (v := undef) rfl (by kernel_rfl) (by kernel_rfl) (by kernel_rfl) (fun _ _ _ h => h) (Or.inr ⟨by rfl, rfl⟩) (by assumption) ?_
    try simp only [aP, lA, lZ, lS]
    refine wT (i := 19) (oi := ⟨some 24, _, _, _, _, _⟩) (v := undef) rfl (by kernel_rfl) (by kernel_rfl) (by kernel_rfl) (fun _ _ _ h => h) (Or.inr ⟨by rfl, rfl⟩) (by assumption) ?_
    try simp only [aP, lA, lZ, lS]
    refine wT (i := 20) (oi := ⟨some 25, _, _, _, _, _⟩) (v := undef) rfl (by kernel_rfl) (by kernel_rfl) (by kernel_rfl) (fun _ _ _ h => h) (Or.inr ⟨by rfl, rfl⟩) (by assumption) ?_
    try simp only [aP, lA, lZ, lS]
    refine wT (i := 21) (oi := ⟨some 26, _, _, _, _, _⟩) (v := undef) rfl (by kernel_rfl) (by kernel_rfl) (by kernel_rfl) (fun _ _ _ h => h) (Or.inr ⟨by rfl, rfl⟩) (by assumption) ?_
    try simp only [aP, lA, lZ, lS]
    refine wT (i := 22) (oi := ⟨some 27, _, _, _, _, _⟩) (v := ?va10x22) rfl (by kernel_rfl) (by kernel_rfl) (by kernel_rfl) (fun _ _ _ h => h) (Or.inl ⟨by rfl, ?hya10x22⟩) (by assumption) ?ra10x22
    case hya10x22 => (intro wz hSw; (try dsimp only at hSw); go_simp <;> try with_reducible rfl)
    try simp only [aP, lA, lZ, lS]
    refine wT (i := 23) (oi := ⟨some 28, _, _, _, _, _⟩) (v := ?va11x23) rfl (by kernel_rfl) (by kernel_rfl) (by kernel_rfl) (fun _ _ _ h => h) (Or.inl ⟨by rfl, ?hya11x23⟩) (by assumption) ?ra11x23
    case hya11x23 => (intro wz hSw; (try dsimp only at hSw); go_simp <;> try with_reducible rfl)
    try simp only [aP, lA, lZ, lS]
    refine wT (i := 24) (oi := ⟨some 29, _, _, _, _, _⟩) (v := undef) rfl (by kernel_rfl) (by kernel_rfl) (by kernel_rfl) (fun _ _ _ h => h) (Or.inr ⟨by rfl, rfl⟩) (by assumption) ?_
    try simp only [aP, lA, lZ, lS]
    refine wT (i := 25) (oi := ⟨some 30, _, _, _, _, _⟩) (v := undef) rfl (by kernel_rfl) (by kernel_rfl) (by kernel_rfl) (fun _ _ _ h => h) (Or.inr ⟨by rfl, rfl⟩) (by assumption) ?_
    try simp only [aP, lA, lZ, lS]
    refine wT (i := 26) (oi := ⟨some 31, _, _, _, _, _⟩) (v := undef) rfl (by kernel_rfl) (by kernel_rfl) (by kernel_rfl) (fun _ _ _ h => h) (Or.inr ⟨by rfl, rfl⟩) (by assumption) ?_
    try simp only [aP, lA, lZ, lS]
    refine wT (i := 27) (oi := ⟨some 32, _, _, _, _, _⟩) (v := undef) rfl (by kernel_rfl) (by kernel_rfl) (by kernel_rfl) (fun _ _ _ h => h) (Or.inr ⟨by rfl, rfl⟩) (by assumption) ?_
    try simp only [aP, lA, lZ, lS]
    refine wT (i := 28) (oi := ⟨some 33, _, _, _, _, _⟩) (v := undef) rfl (by kernel_rfl) (by kernel_rfl) (by kernel_rfl) (fun _ _ _ h => h) (Or.inr ⟨by rfl, rfl⟩) (by assumption) ?_
    try simp only [aP, lA, lZ, lS]
    refine wT (i := 29) (oi := ⟨some 34, _, _, _, _, _⟩) (v := ?va12x29) rfl (by kernel_rfl) (by kernel_rfl) (by kernel_rfl) (fun _ _ _ h => h) (Or.inl ⟨by rfl, ?hya12x29⟩) (by assumption) ?ra12x29
    case hya12x29 => (intro wz hSw; (try dsimp only at hSw); go_simp <;> try with_reducible rfl)
    try simp only [aP, lA, lZ, lS]
    refine wT (i := 30) (oi := ⟨some 35, _, _, _, _, _⟩) (v := ?va13x30) rfl (by kernel_rfl) (by kernel_rfl) (by kernel_rfl) (fun _ _ _ h => h) (Or.inl ⟨by rfl, ?hya13x30⟩) (by assumption) ?ra13x30
    case hya13x30 => (intro wz hSw; (try dsimp only at hSw); go_simp <;> try with_reducible rfl)
    try simp only [aP, lA, lZ, lS]
    refine wT (i := 31) (oi := ⟨some 36, _, _, _, _, _⟩) (v := undef) rfl (by kernel_rfl) (by kernel_rfl) (by kernel_rfl) (fun _ _ _ h => h) (Or.inr ⟨by rfl, rfl⟩) (by assumption) ?_
    try simp only [aP, lA, lZ, lS]
    refine wT (i := 32) (oi := ⟨some 37, _, _, _, _, _⟩) (v := undef) rfl (by kernel_rfl) (by kernel_rfl) (by kernel_rfl) (fun _ _ _ h => h) (Or.inr ⟨by rfl, rfl⟩) (by assumption) ?_
    try simp only [aP, lA, lZ, lS]
    refine wT (i := 33) (oi := ⟨some 38, _, _, _, _, _⟩) (v := undef) rfl (by kernel_rfl) (by kernel_rfl) (by kernel_rfl) (fun _ _ _ h => h) (Or.inr ⟨by rfl, rfl⟩) (by assumption) ?_
    try simp only [aP, lA, lZ, lS]
    refine wT (i := 34) (oi := ⟨some 39, _, _, _, _, _⟩) (v := undef) rfl (by kernel_rfl) (by kernel_rfl) (by kernel_rfl) (fun _ _ _ h => h) (Or.inr ⟨by rfl, rfl⟩) (by assumption) ?_
    try simp only [aP, lA, lZ, lS]
    refine wT (i := 35) (oi := ⟨some 40, _, _, _, _, _⟩) (v := undef) rfl (by kernel_rfl) (by kernel_rfl) (by kernel_rfl) (fun _ _ _ h => h) (Or.inr ⟨by rfl, rfl⟩) (by assumption) ?_
    try simp only [aP, lA, lZ, lS]
    refine wT (i := 36) (oi := ⟨some 41, _, _, _, _, _⟩) (v := ?va14x36) rfl (by kernel_rfl) (by kernel_rfl) (by kernel_rfl) (fun _ _ _ h => h) (Or.inl ⟨by rfl, ?hya14x36⟩) (by assumption) ?ra14x36
    case hya14x36 => (intro wz hSw; (try dsimp only at hSw); go_simp <;> try with_reducible rfl)
    try simp only [aP, lA, lZ, lS]
    refine wT (i := 37) (oi := ⟨some 42, _, _, _, _, _⟩) (v := ?va15x37) rfl (by kernel_rfl) (by kernel_rfl) (by kernel_rfl) (fun _ _ _ h => h) (Or.inl ⟨by rfl, ?hya15x37⟩) (by assumption) ?ra15x37
    case hya15x37 => (intro wz hSw; (try dsimp only at hSw); go_simp <;> try with_reducible rfl)
    try simp only [aP, lA, lZ, lS]
    refine wT (i := 38) (oi := ⟨some 43, _, _, _, _, _⟩) (v := undef) rfl (by kernel_rfl) (by kernel_rfl) (by kernel_rfl) (fun _ _ _ h => h) (Or.inr ⟨by rfl, rfl⟩) (by assumption) ?_
    try simp only [aP, lA, lZ, lS]
    refine wT (i := 40) (oi := ⟨some 45, _, _, _, _, _⟩) (v := undef) rfl (by kernel_rfl) (by kernel_rfl) (by kernel_rfl) (fun _ _ _ h => h) (Or.inr ⟨by rfl, rfl⟩) (by assumption) ?_
    try simp only [aP, lA, lZ, lS]
    refine wT (i := 39) (oi := ⟨some 44, _, _, _, _, _⟩) (v := undef) rfl (by kernel_rfl) (by kernel_rfl) (by kernel_rfl) (fun _ _ _ h => h) (Or.inr ⟨by rfl, rfl⟩) (by assumption) ?_
    try simp only [aP, lA, lZ, lS]
    refine wT (i := 41) (oi := ⟨some 46, _, _, _, _, _⟩) (v := undef) rfl (by kernel_rfl) (by kernel_rfl) (by kernel_rfl) (fun _ _ _ h => h) (Or.inr ⟨by rfl, rfl⟩) (by assumption) ?_
    try simp only [aP, lA, lZ, lS]
    refine wT (i := 42) (oi := ⟨some 47, _, _, _, _, _⟩) (v := undef) rfl (by kernel_rfl) (by kernel_rfl) (by kernel_rfl) (fun _ _ _ h => h) (Or.inr ⟨by rfl, rfl⟩) (by assumption) ?_
    try simp only [aP, lA, lZ, lS]
    refine wT (i := 43) (oi := ⟨some 48, _, _, _, _, _⟩) (v := ?va16x43) rfl (by kernel_rfl) (by kernel_rfl) (by kernel_rfl) (fun _ _ _ h => h) (Or.inl ⟨by rfl, ?hya16x43⟩) (by assumption) ?ra16x43
    case hya16x43 => (intro wz hSw; (try dsimp only at hSw); go_simp <;> try with_reducible rfl)
    try simp only [aP, lA, lZ, lS]
    refine wT (i := 44) (oi := ⟨some 49, _, _, _, _, _⟩) (v := ?va17x44) rfl (by kernel_rfl) (by kernel_rfl) (by kernel_rfl) (fun _ _ _ h => h) (Or.inl ⟨by rfl, ?hya17x44⟩) (by assumption) ?ra17x44
    case hya17x44 => (intro wz hSw; (try dsimp only at hSw); go_simp <;> try with_reducible rfl)
    try simp only [aP, lA, lZ, lS]
    refine wT (i := 45) (oi := ⟨some 50, _, _, _, _, _⟩) (v := undef) rfl (by kernel_rfl) (by kernel_rfl) (by kernel_rfl) (fun _ _ _ h => h) (Or.inr ⟨by rfl, rfl⟩) (by assumption) ?_
    try simp only [aP, lA, lZ, lS]
    refine wT (i := 46) (oi := ⟨some 51, _, _, _, _, _⟩) (v := undef) rfl (by kernel_rfl) (by kernel_rfl) (by kernel_rfl) (fun _ _ _ h => h) (Or.inr ⟨by rfl, rfl⟩) (by assumption) ?_
    try simp only [aP, lA, lZ, lS]
    refine wT (i := 47) (oi := ⟨some 52, _, _, _, _, _⟩) (v := undef) rfl (by kernel_rfl) (by kernel_rfl) (by kernel_rfl) (fun _ _ _ h => h) (Or.inr ⟨by rfl, rfl⟩) (by assumption) ?_
    try simp only [aP, lA, lZ, lS]
    refine wT (i := 48) (oi := ⟨some 53, _, _, _, _, _⟩) (v := ?va18x48) rfl (by kernel_rfl) (by kernel_rfl) (by kernel_rfl) (fun _ _ _ h => h) (Or.inl ⟨by rfl, ?hya18x48⟩) (by assumption) ?ra18x48
    case hya18x48 => (intro wz hSw; (try dsimp only at hSw); go_simp <;> try with_reducible rfl)
    try simp only [aP, lA, lZ, lS]
    refine wT (i := 49) (oi := ⟨some 54, _, _, _, _, _⟩) (v := ?va19x49) rfl (by kernel_rfl) (by kernel_rfl) (by kernel_rfl) (fun _ _ _ h => h) (Or.inl ⟨by rfl, ?hya19x49⟩) (by assumption) ?ra19x49
    case hya19x49 => (intro wz hSw; (try dsimp only at hSw); go_simp <;> try with_reducible rfl)
    try simp only [aP, lA, lZ, lS]
    refine wT (i := 50) (oi := ⟨some 55, _, _, _, _, _⟩) (v := undef) rfl (by kernel_rfl) (by kernel_rfl) (by kernel_rfl) (fun _ _ _ h => h) (Or.inr ⟨by rfl, rfl⟩) (by assumption) ?_
    try simp only [aP, lA, lZ, lS]
    refine wT (i := 51) (oi := ⟨some 56, _, _, _, _, _⟩) (v := undef) rfl (by kernel_rfl) (by kernel_rfl) (by kernel_rfl) (fun _ _ _ h => h) (Or.inr ⟨by rfl, rfl⟩) (by assumption) ?_
    try simp only [aP, lA, lZ, lS]
    refine wT (i := 52) (oi := ⟨some 57, _, _, _, _, _⟩) (v := undef) rfl (by kernel_rfl) (by kernel_rfl) (by kernel_rfl) (fun _ _ _ h => h) (Or.inr ⟨by rfl, rfl⟩) (by assumption) ?_
    try simp only [aP, lA, lZ, lS]
    refine wT (i := 53) (oi := ⟨some 58, _, _, _, _, _⟩) (v := ?va20x53) rfl (by kernel_rfl) (by kernel_rfl) (by kernel_rfl) (fun _ _ _ h => h) (Or.inl ⟨by rfl, ?hya20x53⟩) (by assumption) ?ra20x53
    case hya20x53 => (intro wz hSw; (try dsimp only at hSw); go_simp <;> try with_reducible rfl)
    try simp only [aP, lA, lZ, lS]
    refine wT (i := 54) (oi := ⟨some 4, _, _, _, _, _⟩) (v := ?va21x54) rfl (by kernel_rfl) (by kernel_rfl) (by kernel_rfl) (fun _ _ _ h => h) (Or.inl ⟨by rfl, ?hya21x54⟩) (by assumption) ?ra21x54
    case hya21x54 => (intro wz hSw; (try dsimp only at hSw); go_simp <;> try with_reducible rfl)
    try simp only [aP, lA, lZ, lS]
    refine wpAnyH_done (by kernel_rfl) ?_ _
    go_wp2_with fail
    go_ret
    exact ⟨rfl, H.out.below⟩
  · refine wT (i := 3) (oi := ⟨some 8, _, _, _, _, _⟩) (v := ?va4x3) rfl (by kernel_rfl) (by kernel_rfl) (by kernel_rfl) (fun _ _ _ h => h) (Or.inl ⟨by rfl, ?hya4x3⟩) (by assumption) ?ra4x3
    case hya4x3 => (intro wz hSw; (try dsimp only at hSw); go_simp <;> try with_reducible rfl)
    try simp only [aP, lA, lZ, lS]
    refine wT (i := 4) (oi := ⟨some 9, _, _, _, _, _⟩) (v := ?va22x4) rfl (by kernel_rfl) (by kernel_rfl) (by kernel_rfl) (fun _ _ _ h => h) (Or.inl ⟨by rfl, ?hya22x4⟩) (by assumption) ?ra22x4
    case hya22x4 => (intro wz hSw; (try dsimp only at hSw); go_simp <;> try with_reducible rfl)
    try simp only [aP, lA, lZ, lS]
    refine wT (i := 5) (oi := ⟨some 10, _, _, _, _, _⟩) (v := ?va23x5) rfl (by kernel_rfl) (by kernel_rfl) (by kernel_rfl) (fun _ _ _ h => h) (Or.inl ⟨by rfl, ?hya23x5⟩) (by assumption) ?ra23x5
    case hya23x5 => (intro wz hSw; (try dsimp only at hSw); go_simp <;> try with_reducible rfl)
    try simp only [aP, lA, lZ, lS]
    refine wT (i := 6) (oi := ⟨some 11, _, _, _, _, _⟩) (v := ?va24x6) rfl (by kernel_rfl) (by kernel_rfl) (by kernel_rfl) (fun _ _ _ h => h) (Or.inl ⟨by rfl, ?hya24x6⟩) (by assumption) ?ra24x6
    case hya24x6 => (intro wz hSw; (try dsimp only at hSw); go_simp <;> try with_reducible rfl)
    try simp only [aP, lA, lZ, lS]
    cases u2
    · refine wT (i := 7) (oi := ⟨some 12, _, _, _, _, _⟩) (v := ?va27x7) rfl (by kernel_rfl) (by kernel_rfl) (by kernel_rfl) (fun _ _ _ h => h) (Or.inl ⟨by rfl, ?hya27x7⟩) (by assumption) ?ra27x7
      case hya27x7 => (intro wz hSw; (try dsimp only at hSw); go_simp <;> try with_reducible rfl)
      try simp only [aP, lA, lZ, lS]
      refine wT (i := 8) (oi := ⟨some 13, _, _, _, _, _⟩) (v := ?va28x8) rfl (by kernel_rfl) (by kernel_rfl) (by kernel_rfl) (fun _ _ _ h => h) (Or.inl ⟨by rfl, ?hya28x8⟩) (by assumption) ?ra28x8
      case hya28x8 => (intro wz hSw; (try dsimp only at hSw); go_simp <;> try with_reducible rfl)
      try simp only [aP, lA, lZ, lS]
      refine wT (i := 9) (oi := ⟨some 14, _, _, _, _, _⟩) (v := undef) rfl (by kernel_rfl) (by kernel_rfl) (by kernel_rfl) (fun _ _ _ h => h) (Or.inr ⟨by rfl, rfl⟩) (by assumption) ?_
      try simp only [aP, lA, lZ, lS]
      refine wT (i := 10) (oi := ⟨some 15, _, _, _, _, _⟩) (v := undef) rfl (by kernel_rfl) (by kernel_rfl) (by kernel_rfl) (fun _ _ _ h => h) (Or.inr ⟨by rfl, rfl⟩) (by assumption) ?_
      try simp only [aP, lA, lZ, lS]
      refine wT (i := 11) (oi := ⟨some 16, _, _, _, _, _⟩) (v := undef) rfl (by kernel_rfl) (by kernel_rfl) (by kernel_rfl) (fun _ _ _ h => h) (Or.inr ⟨by rfl, rfl⟩) (by assumption) ?_
      try simp only [aP, lA, lZ, lS]
      refine wT (i := 12) (oi := ⟨some 17, _, _, _, _, _⟩) (v := undef) rfl (by kernel_rfl) (by kernel_rfl) (by kernel_rfl) (fun _ _ _ h => h) (Or.inr ⟨by rfl, rfl⟩) (by assumption) ?_
      try simp only [aP, lA, lZ, lS]
      refine wT (i := 13) (oi := ⟨some 18, _, _, _, _, _⟩) (v := undef) rfl (by kernel_rfl) (by kernel_rfl) (by kernel_rfl) (fun _ _ _ h => h) (Or.inr ⟨by rfl, rfl⟩) (by assumption) ?_
      try simp only [aP, lA, lZ, lS]
      refine wT (i := 14) (oi := ⟨some 19, _, _, _, _, _⟩) (v := undef) rfl (by kernel_rfl) (by kernel_rfl) (by kernel_rfl) (fun _ _ _ h => h) (Or.inr ⟨by rfl, rfl⟩) (by assumption) ?_
      try simp only [aP, lA, lZ, lS]
      refine wT (i := 15) (oi := ⟨some 20, _, _, _, _, _⟩) (v := ?va29x15) rfl (by kernel_rfl) (by kernel_rfl) (by kernel_rfl) (fun _ _ _ h => h) (Or.inl ⟨by rfl, ?hya29x15⟩) (by assumption) ?ra29x15
      case hya29x15 => (intro wz hSw; (try dsimp only at hSw); go_simp <;> try with_reducible rfl)
      try simp only [aP, lA, lZ, lS]
      refine wT (i := 16) (oi := ⟨some 21, _, _, _, _, _⟩) (v := ?va30x16) rfl (by kernel_rfl) (by kernel_rfl) (by kernel_rfl) (fun _ _ _ h => h) (Or.inl ⟨by rfl, ?hya30x16⟩) (by assumption) ?ra30x16
      case hya30x16 => (intro wz hSw; (try dsimp only at hSw); go_simp <;> try with_reducible rfl)
      try simp only [aP, lA, lZ, lS]
      refine wT (i := 17) (oi := ⟨some 22, _, _, _, _, _⟩) (v := undef) rfl (by kernel_rfl) (by kernel_rfl) (by kernel_rfl) (fun _ _ _ h => h) (Or.inr ⟨by rfl, rfl⟩) (by assumption) ?_
      try simp only [aP, lA, lZ, lS]
      refine wT (i := 18) (oi := ⟨some 23, _, _, _, _, _⟩) (v := undef) rfl (by kernel_rfl) (by kernel_rfl) (by kernel_rfl) (fun _ _ _ h => h) (Or.inr ⟨by rfl, rfl⟩) (by assumption) ?_
      try simp only [aP, lA, lZ, lS]
      refine wT (i := 19) (oi := ⟨some 24, _, _, _, _, _⟩) (v := undef) rfl (by kernel_rfl) (by kernel_rfl) (by kernel_rfl) (fun _ _ _ h => h) (Or.inr ⟨by rfl, rfl⟩) (by assumption) ?_
      try simp only [aP, lA, lZ, lS]
      refine wT (i := 20) (oi := ⟨some 25, _, _, _, _, _⟩) (v := undef) rfl (by kernel_rfl) (by kernel_rfl) (by kernel_rfl) (fun _ _ _ h => h) (Or.inr ⟨by rfl, rfl⟩) (by assumption) ?_
      try simp only [aP, lA, lZ, lS]
      refine wT (i := 21) (oi := ⟨some 26, _, _, _, _, _⟩) (v := undef) rfl (by kernel_rfl) (by kernel_rfl) (by kernel_rfl) (fun _ _ _ h => h) (Or.inr ⟨by rfl, rfl⟩) (by assumption) ?_
      try simp only [aP, lA, lZ, lS]
      refine wT (i := 22) (oi := ⟨some 27, _, _, _, _, _⟩) (v := ?va31x22) rfl (by kernel_rfl) (by kernel_rfl) (by kernel_rfl) (fun _ _ _ h => h) (Or.inl ⟨by rfl, ?hya31x22⟩) (by assumption) ?ra31x22
      case hya31x22 => (intro wz hSw; (try dsimp only at hSw); go_simp <;> try with_reducible rfl)
      try simp only [aP, lA, lZ, lS]
      refine wT (i := 23) (oi := ⟨some 28, _, _, _, _, _⟩) (v := ?va32x23) rfl (by kernel_rfl) (by kernel_rfl) (by kernel_rfl) (fun _ _ _ h => h) (Or.inl ⟨by rfl, ?hya32x23⟩) (by assumption) ?ra32x23
      case hya32x23 => (intro wz hSw; (try dsimp only at hSw); go_simp <;> try with_reducible rfl)
      try simp only [aP, lA, lZ, lS]
      refine wT (i := 24) (oi := ⟨some 29, _, _, _, _, _⟩) (v := undef) rfl (by kernel_rfl) (by kernel_rfl) (by kernel_rfl) (fun _ _ _ h => h) (Or.inr ⟨by rfl, rfl⟩) (by assumption) ?_
      try simp only [aP, lA, lZ, lS]
      refine wT (i := 25) (oi := ⟨some 30, _, _, _, _, _⟩) (v := undef) rfl (by kernel_rfl) (by kernel_rfl) (by kernel_rfl) (fun _ _ _ h => h) (Or.inr ⟨by rfl, rfl⟩) (by assumption) ?_
      try simp only [aP, lA, lZ, lS]
      refine wT (i := 26) (oi := ⟨some 31, _, _, _, _, _⟩) (v := undef) rfl (by kernel_rfl) (by kernel_rfl) (by kernel_rfl) (fun _ _ _ h => h) (Or.inr ⟨by rfl, rfl⟩) (by assumption) ?_
      try simp only [aP, lA, lZ, lS]
      refine wT (i := 27) (oi := ⟨some 32, _, _, _, _, _⟩) (v := undef) rfl (by kernel_rfl) (by kernel_rfl) (by kernel_rfl) (fun _ _ _ h => h) (Or.inr ⟨by rfl, rfl⟩) (by assumption) ?_
      try simp only [aP, lA, lZ, lS]
      refine wT (i := 28) (oi := ⟨some 33, _, _, _, _, _⟩) (v := undef) rfl (by kernel_rfl) (by kernel_rfl) (by kernel_rfl) (fun _ _ _ h => h) (Or.inr ⟨by rfl, rfl⟩) (by assumption) ?_
      try simp only [aP, lA, lZ, lS]
      refine wT (i := 29) (oi := ⟨some 34, _, _, _, _, _⟩) (v := ?va33x29) rfl (by kernel_rfl) (by kernel_rfl) (by kernel_rfl) (fun _ _ _ h => h) (Or.inl ⟨by rfl, ?hya33x29⟩) (by assumption) ?ra33x29
      case hya33x29 => (intro wz hSw; (try dsimp only at hSw); go_simp <;> try with_reducible rfl)
      try simp only [aP, lA, lZ, lS]
      refine wT (i := 30) (oi := ⟨some 35, _, _, _, _, _⟩) (v := ?va34x30) rfl (by kernel_rfl) (by kernel_rfl) (by kernel_rfl) (fun _ _ _ h => h) (Or.inl ⟨by rfl, ?hya34x30⟩) (by assumption) ?ra34x30
      case hya34x30 => (intro wz hSw; (try dsimp only at hSw); go_simp <;> try with_reducible rfl)
      try simp only [aP, lA, lZ, lS]
      refine wT (i := 31) (oi := ⟨some 36, _, _, _, _, _⟩) (v := undef) rfl (by kernel_rfl) (by kernel_rfl) (by kernel_rfl) (fun _ _ _ h => h) (Or.inr ⟨by rfl, rfl⟩) (by assumption) ?_
      try simp only [aP, lA, lZ, lS]
      refine wT (i := 32) (oi := ⟨some 37, _, _, _, _, _⟩) (v := undef) rfl (by kernel_rfl) (by kernel_rfl) (by kernel_rfl) (fun _ _ _ h => h) (Or.inr ⟨by rfl, rfl⟩) (by assumption) ?_
      try simp only [aP, lA, lZ, lS]
      refine wT (i := 33) (oi := ⟨some 38, _, _, _, _, _⟩) (v := undef) rfl (by kernel_rfl) (by kernel_rfl) (by kernel_rfl) (fun _ _ _ h => h) (Or.inr ⟨by rfl, rfl⟩) (by assumption) ?_
      try simp only [aP, lA, lZ, lS]
      refine wT (i := 34) (oi := ⟨some 39, _, _, _, _, _⟩) (v := undef) rfl (by kernel_rfl) (by kernel_rfl) (by kernel_rfl) (fun _ _ _ h => h) (Or.inr ⟨by rfl, rfl⟩) (by assumption) ?_
      try simp only [aP, lA, lZ, lS]
      refine wT (i := 35) (oi := ⟨some 40, _, _, _, _, _⟩) (v := undef) rfl (by kernel_rfl) (by kernel_rfl) (by kernel_rfl) (fun _ _ _ h => h) (Or.inr ⟨by rfl, rfl⟩) (by assumption) ?_
      try simp only [aP, lA, lZ, lS]
      refine wT (i := 36) (oi := ⟨some 41, _, _, _, _, _⟩) (v := ?va35x36) rfl (by kernel_rfl) (by kernel_rfl) (by kernel_rfl) (fun _ _ _ h => h) (Or.inl ⟨by rfl, ?hya35x36⟩) (by assumption) ?ra35x36
      case hya35x36 => (intro wz hSw; (try dsimp only at hSw); go_simp <;> try with_reducible rfl)
      try simp only [aP, lA, lZ, lS]
      refine wT (i := 37) (oi := ⟨some 42, _, _, _, _, _⟩) (v := ?va36x37) rfl (by kernel_rfl) (by kernel_rfl) (by kernel_rfl) (fun _ _ _ h => h) (Or.inl ⟨by rfl, ?hya36x37⟩) (by assumption) ?ra36x37
      case hya36x37 => (intro wz hSw; (try dsimp only at hSw); go_simp <;> try with_reducible rfl)
      try simp only [aP, lA, lZ, lS]
      refine wT (i := 38) (oi := ⟨some 43, _, _, _, _, _⟩) (v := undef) rfl (by kernel_rfl) (by kernel_rfl) (by kernel_rfl) (fun _ _ _ h => h) (Or.inr ⟨by rfl, rfl⟩) (by assumption) ?_
      try simp only [aP, lA, lZ, lS]
      refine wT (i := 40) (oi := ⟨some 45, _, _, _, _, _⟩) (v := undef) rfl (by kernel_rfl) (by kernel_rfl) (by kernel_rfl) (fun _ _ _ h => h) (Or.inr ⟨by rfl, rfl⟩) (by assumption) ?_
      try simp only [aP, lA, lZ, lS]
      refine wT (i := 39) (oi := ⟨some 44, _, _, _, _, _⟩) (v := undef) rfl (by kernel_rfl) (by kernel_rfl) (by kernel_rfl) (fun _ _ _ h => h) (Or.inr ⟨by rfl, rfl⟩) (by assumption) ?_
      try simp only [aP, lA, lZ, lS]
      refine wT (i := 41) (oi := ⟨some 46, _, _, _, _, _⟩) (v := undef) rfl (by kernel_rfl) (by kernel_rfl) (by kernel_rfl) (fun _ _ _ h => h) (Or.inr ⟨by rfl, rfl⟩) (by assumption) ?_
      try simp only [aP, lA, lZ, lS]
      refine wT (i := 42) (oi := ⟨some 47, _, _, _, _, _⟩) (v := undef) rfl (by kernel_rfl) (by kernel_rfl) (by kernel_rfl) (fun _ _ _ h => h) (Or.inr ⟨by rfl, rfl⟩) (by assumption) ?_
      try simp only [aP, lA, lZ, lS]
      refine wT (i := 43) (oi := ⟨some 48, _, _, _, _, _⟩) (v := ?va37x43) rfl (by kernel_rfl) (by kernel_rfl) (by kernel_rfl) (fun _ _ _ h => h) (Or.inl ⟨by rfl, ?hya37x43⟩) (by assumption) ?ra37x43
      case hya37x43 => (intro wz hSw; (try dsimp only at hSw); go_simp <;> try with_reducible rfl)
      try simp only [aP, lA, lZ, lS]
      refine wT (i := 44) (oi := ⟨some 49, _, _, _, _, _⟩) (v := ?va38x44) rfl (by kernel_rfl) (by kernel_rfl) (by kernel_rfl) (fun _ _ _ h => h) (Or.inl ⟨by rfl, ?hya38x44⟩) (by assumption) ?ra38x44
      case hya38x44 => (intro wz hSw; (try dsimp only at hSw); go_simp <;> try with_reducible rfl)
      try simp only [aP, lA, lZ, lS]
      refine wT (i := 45) (oi := ⟨some 50, _, _, _, _, _⟩) (v := undef) rfl (by kernel_rfl) (by kernel_rfl) (by kernel_rfl) (fun _ _ _ h => h) (Or.inr ⟨by rfl, rfl⟩) (by assumption) ?_
      try simp only [aP, lA, lZ, lS]
      refine wT (i := 46) (oi := ⟨some 51, _, _, _, _, _⟩) (v := undef) rfl (by kernel_rfl) (by kernel_rfl) (by kernel_rfl) (fun _ _ _ h => h) (Or.inr ⟨by rfl, rfl⟩) (by assumption) ?_
      try simp only [aP, lA, lZ, lS]
      refine wT (i := 47) (oi := ⟨some 52, _, _, _, _, _⟩) (v := undef) rfl (by kernel_rfl) (by kernel_rfl) (by kernel_rfl) (fun _ _ _ h => h) (Or.inr ⟨by rfl, rfl⟩) (by assumption) ?_
      try simp only [aP, lA, lZ, lS]
      refine wT (i := 48) (oi := ⟨some 53, _, _, _, _, _⟩) (v := ?va39x48) rfl (by kernel_rfl) (by kernel_rfl) (by kernel_rfl) (fun _ _ _ h => h) (Or.inl ⟨by rfl, ?hya39x48⟩) (by assumption) ?ra39x48
      case hya39x48 => (intro wz hSw; (try dsimp only at hSw); go_simp <;> try with_reducible rfl)
      try simp only [aP, lA, lZ, lS]
      refine wT (i := 49) (oi := ⟨some 54, _, _, _, _, _⟩) (v := ?va40x49) rfl (by kernel_rfl) (by kernel_rfl) (by kernel_rfl) (fun _ _ _ h => h) (Or.inl ⟨by rfl, ?hya40x49⟩) (by assumption) ?ra40x49
      case hya40x49 => (intro wz hSw; (try dsimp only at hSw); go_simp <;> try with_reducible rfl)
      try simp only [aP, lA, lZ, lS]
      refine wT (i := 50) (oi := ⟨some 55, _, _, _, _, _⟩) (v := undef) rfl (by kernel_rfl) (by kernel_rfl) (by kernel_rfl) (fun _ _ _ h => h) (Or.inr ⟨by rfl, rfl⟩) (by assumption) ?_
      try simp only [aP, lA, lZ, lS]
      refine wT (i := 51) (oi := ⟨some 56, _, _, _, _, _⟩) (v := undef) rfl (by kernel_rfl) (by kernel_rfl) (by kernel_rfl) (fun _ _ _ h => h) (Or.inr ⟨by rfl, rfl⟩) (by assumption) ?_
      try simp only [aP, lA, lZ, lS]
      refine wT (i := 52) (oi := ⟨some 57, _, _, _, _, _⟩) (v := undef) rfl (by kernel_rfl) (by kernel_rfl) (by kernel_rfl) (fun _ _ _ h => h) (Or.inr ⟨by rfl, rfl⟩) (by assumption) ?_
      try simp only [aP, lA, lZ, lS]
      refine wT (i := 53) (oi := ⟨some 58, _, _, _, _, _⟩) (v := ?va41x53) rfl (by kernel_rfl) (by kernel_rfl) (by kernel_rfl) (fun _ _ _ h => h) (Or.inl ⟨by rfl, ?hya41x53⟩) (by assumption) ?ra41x53
      case hya41x53 => (intro wz hSw; (try dsimp only at hSw); go_simp <;> try with_reducible rfl)
      try simp only [aP, lA, lZ, lS]
      refine wT (i := 54) (oi := ⟨some 4, _, _, _, _, _⟩) (v := ?va42x54) rfl (by kernel_rfl) (by kernel_rfl) (by kernel_rfl) (fun _ _ _ h => h) (Or.inl ⟨by rfl, ?hya42x54⟩) (by assumption) ?ra42x54
      case hya42x54 => (intro wz hSw; (try dsimp only at hSw); go_simp <;> try with_reducible rfl)
      try simp only [aP, lA, lZ, lS]
      refine wpAnyH_done (by kernel_rfl) ?_ _
      go_wp2_with fail
      go_ret
      exact ⟨rfl, H.out.below⟩
    · refine wT (i := 7) (oi := ⟨some 12, _, _, _, _, _⟩) (v := ?va25x7) rfl (by kernel_rfl) (by kernel_rfl) (by kernel_rfl) (fun _ _ _ h => h) (Or.inl ⟨by rfl, ?hya25x7⟩) (by assumption) ?ra25x7
      case hya25x7 => (intro wz hSw; (try dsimp only at hSw); go_simp <;> try with_reducible rfl)
      try simp only [aP, lA, lZ, lS]
      refine wT (i := 8) (oi := ⟨some 13, _, _, _, _, _⟩) (v := ?va26x8) rfl (by kernel_rfl) (by kernel_rfl) (by kernel_rfl) (fun _ _ _ h => h) (Or.inl ⟨by rfl, ?hya26x8⟩) (by assumption) ?ra26x8
      case hya26x8 => (intro wz hSw; (try dsimp only at hSw); go_simp <;> try with_reducible rfl)
      try simp only [aP, lA, lZ, lS]
      refine wT (i := 9) (oi := ⟨some 14, _, _, _, _, _⟩) (v := ?va43x9) rfl (by kernel_rfl) (by kernel_rfl) (by kernel_rfl) (fun _ _ _ h => h) (Or.inl ⟨by rfl, ?hya43x9⟩) (by assumption) ?ra43x9
      case hya43x9 => (intro wz hSw; (try dsimp only at hSw); go_simp <;> try with_reducible rfl)
      try simp only [aP, lA, lZ, lS]
      refine wT (i := 10) (oi := ⟨some 15, _, _, _, _, _⟩) (v := ?va44x10) rfl (by kernel_rfl) (by kernel_rfl) (by kernel_rfl) (fun _ _ _ h => h) (Or.inl ⟨by rfl, ?hya44x10⟩) (by assumption) ?ra44x10
      case hya44x10 => (intro wz hSw; (try dsimp only at hSw); go_simp <;> try with_reducible rfl)
      try simp only [aP, lA, lZ, lS]
      refine wT (i := 11) (oi := ⟨some 16, _, _, _, _, _⟩) (v := ?va45x11) rfl (by kernel_rfl) (by kernel_rfl) (by kernel_rfl) (fun _ _ _ h => h) (Or.inl ⟨by rfl, ?hya45x11⟩) (by assumption) ?ra45x11
      case hya45x11 => (intro wz hSw; (try dsimp only at hSw); go_simp <;> try with_reducible rfl)
      try simp only [aP, lA, lZ, lS]
      refine wT (i := 12) (oi := ⟨some 17, _, _, _, _, _⟩) (v := ?va46x12) rfl (by kernel_rfl) (by kernel_rfl) (by kernel_rfl) (fun _ _ _ h => h) (Or.inl ⟨by rfl, ?hya46x12⟩) (by assumption) ?ra46x12
      case hya46x12 => (intro wz hSw; (try dsimp only at hSw); go_simp <;> try with_reducible rfl)
      try simp only [aP, lA, lZ, lS]
      refine wT (i := 13) (oi := ⟨some 18, _, _, _, _, _⟩) (v := ?va47x13) rfl (by kernel_rfl) (by kernel_rfl) (by kernel_rfl) (fun _ _ _ h => h) (Or.inl ⟨by rfl, ?hya47x13⟩) (by assumption) ?ra47x13
      case hya47x13 => (intro wz hSw; (try dsimp only at hSw); go_simp <;> try with_reducible rfl)
      try simp only [aP, lA, lZ, lS]
      refine wT (i := 14) (oi := ⟨some 19, _, _, _, _, _⟩) (v := ?va48x14) rfl (by kernel_rfl) (by kernel_rfl) (by kernel_rfl) (fun _ _ _ h => h) (Or.inl ⟨by rfl, ?hya48x14⟩) (by assumption) ?ra48x14
      case hya48x14 => (intro wz hSw; (try dsimp only at hSw); go_simp <;> try with_reducible rfl)
      try simp only [aP, lA, lZ, lS]
      cases u3
      · refine wT (i := 15) (oi := ⟨some 20, _, _, _, _, _⟩) (v := ?va51x15) rfl (by kernel_rfl) (by kernel_rfl) (by kernel_rfl) (fun _ _ _ h => h) (Or.inl ⟨by rfl, ?hya51x15⟩) (by assumption) ?ra51x15
        case hya51x15 => (intro wz hSw; (try dsimp only at hSw); go_simp <;> try with_reducible rfl)
        try simp only [aP, lA, lZ, lS]
        refine wT (i := 16) (oi := ⟨some 21, _, _, _, _, _⟩) (v := ?va52x16) rfl (by kernel_rfl) (by kernel_rfl) (by kernel_rfl) (fun _ _ _ h => h) (Or.inl ⟨by rfl, ?hya52x16⟩) (by assumption) ?ra52x16
        case hya52x16 => (intro wz hSw; (try dsimp only at hSw); go_simp <;> try with_reducible rfl)
        try simp only [aP, lA, lZ, lS]
        refine wT (i := 17) (oi := ⟨some 22, _, _, _, _, _⟩) (v := undef) rfl (by kernel_rfl) (by kernel_rfl) (by kernel_rfl) (fun _ _ _ h => h) (Or.inr ⟨by rfl, rfl⟩) (by assumption) ?_
        try simp only [aP, lA, lZ, lS]
        refine wT (i := 18) (oi := ⟨some 23, _, _, _, _, _⟩) (v := undef) rfl (by kernel_rfl) (by kernel_rfl) (by kernel_rfl) (fun _ _ _ h => h) (Or.inr ⟨by rfl, rfl⟩) (by assumption) ?_
        try simp only [aP, lA, lZ, lS]
        refine wT (i := 19) (oi := ⟨some 24, _, _, _, _, _⟩) (v := undef) rfl (by kernel_rfl) (by kernel_rfl) (by kernel_rfl) (fun _ _ _ h => h) (Or.inr ⟨by rfl, rfl⟩) (by assumption) ?_
        try simp only [aP, lA, lZ, lS]
        refine wT (i := 20) (oi := ⟨some 25, _, _, _, _, _⟩) (v := undef) rfl (by kernel_rfl) (by kernel_rfl) (by kernel_rfl) (fun _ _ _ h => h) (Or.inr ⟨by rfl, rfl⟩) (by assumption) ?_
        try simp only [aP, lA, lZ, lS]
        refine wT (i := 21) (oi := ⟨some 26, _, _, _, _, _⟩) (v := undef) rfl (by kernel_rfl) (by kernel_rfl) (by kernel_rfl) (fun _ _ _ h => h) (Or.inr ⟨by rfl, rfl⟩) (by assumption) ?_
        try simp only [aP, lA, lZ, lS]
        refine wT (i := 22) (oi := ⟨some 27, _, _, _, _, _⟩) (v := ?va53x22) rfl (by kernel_rfl) (by kernel_rfl) (by kernel_rfl) (fun _ _ _ h => h) (Or.inl ⟨by rfl, ?hya53x22⟩) (by assumption) ?ra53x22
        case hya53x22 => (intro wz hSw; (try dsimp only at hSw); go_simp <;> try with_reducible rfl)
        try simp only [aP, lA, lZ, lS]
        refine wT (i := 23) (oi := ⟨some 28, _, _, _, _, _⟩) (v := ?va54x23) rfl (by kernel_rfl) (by kernel_rfl) (by kernel_rfl) (fun _ _ _ h => h) (Or.inl ⟨by rfl, ?hya54x23⟩) (by assumption) ?ra54x23
        case hya54x23 => (intro wz hSw; (try dsimp only at hSw); go_simp <;> try with_reducible rfl)
        try simp only [aP, lA, lZ, lS]
        refine wT (i := 24) (oi := ⟨some 29, _, _, _, _, _⟩) (v := undef) rfl (by kernel_rfl) (by kernel_rfl) (by kernel_rfl) (fun _ _ _ h => h) (Or.inr ⟨by rfl, rfl⟩) (by assumption) ?_
        try simp only [aP, lA, lZ, lS]
        refine wT (i := 25) (oi := ⟨some 30, _, _, _, _, _⟩) (v := undef) rfl (by kernel_rfl) (by kernel_rfl) (by kernel_rfl) (fun _ _ _ h => h) (Or.inr ⟨by rfl, rfl⟩) (by assumption) ?_
        try simp only [aP, lA, lZ, lS]
        refine wT (i := 26) (oi := ⟨some 31, _, _, _, _, _⟩) (v := undef) rfl (by kernel_rfl) (by kernel_rfl) (by kernel_rfl) (fun _ _ _ h => h) (Or.inr ⟨by rfl, rfl⟩) (by assumption) ?_
        try simp only [aP, lA, lZ, lS]
        refine wT (i := 27) (oi := ⟨some 32, _, _, _, _, _⟩) (v := undef) rfl (by kernel_rfl) (by kernel_rfl) (by kernel_rfl) (fun _ _ _ h => h) (Or.inr ⟨by rfl, rfl⟩) (by assumption) ?_
        try simp only [aP, lA, lZ, lS]
        refine wT (i := 28) (oi := ⟨some 33, _, _, _, _, _⟩) (v := undef) rfl (by kernel_rfl) (by kernel_rfl) (by kernel_rfl) (fun _ _ _ h => h) (Or.inr ⟨by rfl, rfl⟩) (by assumption) ?_
        try simp only [aP, lA, lZ, lS]
        refine wT (i := 29) (oi := ⟨some 34, _, _, _, _, _⟩) (v := ?va55x29) rfl (by kernel_rfl) (by kernel_rfl) (by kernel_rfl) (fun _ _ _ h => h) (Or.inl ⟨by rfl, ?hya55x29⟩) (by assumption) ?ra55x29
        case hya55x29 => (intro wz hSw; (try dsimp only at hSw); go_simp <;> try with_reducible rfl)
        try simp only [aP, lA, lZ, lS]
        refine wT (i := 30) (oi := ⟨some 35, _, _, _, _, _⟩) (v := ?va56x30) rfl (by kernel_rfl) (by kernel_rfl) (by kernel_rfl) (fun _ _ _ h => h) (Or.inl ⟨by rfl, ?hya56x30⟩) (by assumption) ?ra56x30
        case hya56x30 => (intro wz hSw; (try dsimp only at hSw); go_simp <;> try with_reducible rfl)
        try simp only [aP, lA, lZ, lS]
        refine wT (i := 31) (oi := ⟨some 36, _, _, _, _, _⟩) (v := undef) rfl (by kernel_rfl) (by kernel_rfl) (by kernel_rfl) (fun _ _ _ h => h) (Or.inr ⟨by rfl, rfl⟩) (by assumption) ?_
        try simp only [aP, lA, lZ, lS]
        refine wT (i := 32) (oi := ⟨some 37, _, _, _, _, _⟩) (v := undef) rfl (by kernel_rfl) (by kernel_rfl) (by kernel_rfl) (fun _ _ _ h => h) (Or.inr ⟨by rfl, rfl⟩) (by assumption) ?_
        try simp only [aP, lA, lZ, lS]
        refine wT (i := 33) (oi := ⟨some 38, _, _, _, _, _⟩) (v := undef) rfl (by kernel_rfl) (by kernel_rfl) (by kernel_rfl) (fun _ _ _ h => h) (Or.inr ⟨by rfl, rfl⟩) (by assumption) ?_
        try simp only [aP, lA, lZ, lS]
        refine wT (i := 34) (oi := ⟨some 39, _, _, _, _, _⟩) (v := undef) rfl (by kernel_rfl) (by kernel_rfl) (by kernel_rfl) (fun _ _ _ h => h) (Or.inr ⟨by rfl, rfl⟩) (by assumption) ?_
        try simp only [aP, lA, lZ, lS]
        refine wT (i := 35) (oi := ⟨some 40, _, _, _, _, _⟩) (v := undef) rfl (by kernel_rfl) (by kernel_rfl) (by kernel_rfl) (fun _ _ _ h => h) (Or.inr ⟨by rfl, rfl⟩) (by assumption) ?_
        try simp only [aP, lA, lZ, lS]
        refine wT (i := 36) (oi := ⟨some 41, _, _, _, _, _⟩) (v := ?va57x36) rfl (by kernel_rfl) (by kernel_rfl) (by kernel_rfl) (fun _ _ _ h => h) (Or.inl ⟨by rfl, ?hya57x36⟩) (by assumption) ?ra57x36
        case hya57x36 => (intro wz hSw; (try dsimp only at hSw); go_simp <;> try with_reducible rfl)
        try simp only [aP, lA, lZ, lS]
        refine wT (i := 37) (oi := ⟨some 42, _, _, _, _, _⟩) (v := ?va58x37) rfl (by kernel_rfl) (by kernel_rfl) (by kernel_rfl) (fun _ _ _ h => h) (Or.inl ⟨by rfl, ?hya58x37⟩) (by assumption) ?ra58x37
        case hya58x37 => (intro wz hSw; (try dsimp only at hSw); go_simp <;> try with_reducible rfl)
        try simp only [aP, lA, lZ, lS]
        refine wT (i := 38) (oi := ⟨some 43, _, _, _, _, _⟩) (v := undef) rfl (by kernel_rfl) (by kernel_rfl) (by kernel_rfl) (fun _ _ _ h => h) (Or.inr ⟨by rfl, rfl⟩) (by assumption) ?_
        try simp only [aP, lA, lZ, lS]
        refine wT (i := 40) (oi := ⟨some 45, _, _, _, _, _⟩) (v := undef) rfl (by kernel_rfl) (by kernel_rfl) (by kernel_rfl) (fun _ _ _ h => h) (Or.inr ⟨by rfl, rfl⟩) (by assumption) ?_
        try simp only [aP, lA, lZ, lS]
        refine wT (i := 39) (oi := ⟨some 44, _, _, _, _, _⟩) (v := undef) rfl (by kernel_rfl) (by kernel_rfl) (by kernel_rfl) (fun _ _ _ h => h) (Or.inr ⟨by rfl, rfl⟩) (by assumption) ?_
        try simp only [aP, lA, lZ, lS]
        refine wT (i := 41) (oi := ⟨some 46, _, _, _, _, _⟩) (v := undef) rfl (by kernel_rfl) (by kernel_rfl) (by kernel_rfl) (fun _ _ _ h => h) (Or.inr ⟨by rfl, rfl⟩) (by assumption) ?_
        try simp only [aP, lA, lZ, lS]
        refine wT (i := 42) (oi := ⟨some 47, _, _, _, _, _⟩) (v := undef) rfl (by kernel_rfl) (by kernel_rfl) (by kernel_rfl) (fun _ _ _ h => h) (Or.inr ⟨by rfl, rfl⟩) (by assumption) ?_
        try simp only [aP, lA, lZ, lS]
        refine wT (i := 43) (oi := ⟨some 48, _, _, _, _, _⟩) (v := ?va59x43) rfl (by kernel_rfl) (by kernel_rfl) (by kernel_rfl) (fun _ _ _ h => h) (Or.inl ⟨by rfl, ?hya59x43⟩) (by assumption) ?ra59x43
        case hya59x43 => (intro wz hSw; (try dsimp only at hSw); go_simp <;> try with_reducible rfl)
        try simp only [aP, lA, lZ, lS]
        refine wT (i := 44) (oi := ⟨some 49, _, _, _, _, _⟩) (v := ?va60x44) rfl (by kernel_rfl) (by kernel_rfl) (by kernel_rfl) (fun _ _ _ h => h) (Or.inl ⟨by rfl, ?hya60x44⟩) (by assumption) ?ra60x44
        case hya60x44 => (intro wz hSw; (try dsimp only at hSw); go_simp <;> try with_reducible rfl)
        try simp only [aP, lA, lZ, lS]
        refine wT (i := 45) (oi := ⟨some 50, _, _, _, _, _⟩) (v := undef) rfl (by kernel_rfl) (by kernel_rfl) (by kernel_rfl) (fun _ _ _ h => h) (Or.inr ⟨by rfl, rfl⟩) (by assumption) ?_
        try simp only [aP, lA, lZ, lS]
        refine wT (i := 46) (oi := ⟨some 51, _, _, _, _, _⟩) (v := undef) rfl (by kernel_rfl) (by kernel_rfl) (by kernel_rfl) (fun _ _ _ h => h) (Or.inr ⟨by rfl, rfl⟩) (by assumption) ?_
        try simp only [aP, lA, lZ, lS]
        refine wT (i := 47) (oi := ⟨some 52, _, _, _, _, _⟩) (v := undef) rfl (by kernel_rfl) (by kernel_rfl) (by kernel_rfl) (fun _ _ _ h => h) (Or.inr ⟨by rfl, rfl⟩) (by assumption) ?_
        try simp only [aP, lA, lZ, lS]
        refine wT (i := 48) (oi := ⟨some 53, _, _, _, _, _⟩) (v := ?va61x48) rfl (by kernel_rfl) (by kernel_rfl) (by kernel_rfl) (fun _ _ _ h => h) (Or.inl ⟨by rfl, ?hya61x48⟩) (by assumption) ?ra61x48
        case hya61x48 => (intro wz hSw; (try dsimp only at hSw); go_simp <;> try with_reducible rfl)
        try simp only [aP, lA, lZ, lS]
        refine wT (i := 49) (oi := ⟨some 54, _, _, _, _, _⟩) (v := ?va62x49) rfl (by kernel_rfl) (by kernel_rfl) (by kernel_rfl) (fun _ _ _ h => h) (Or.inl ⟨by rfl, ?hya62x49⟩) (by assumption) ?ra62x49
        case hya62x49 => (intro wz hSw; (try dsimp only at hSw); go_simp <;> try with_reducible rfl)
        try simp only [aP, lA, lZ, lS]
        refine wT (i := 50) (oi := ⟨some 55, _, _, _, _, _⟩) (v := undef) rfl (by kernel_rfl) (by kernel_rfl) (by kernel_rfl) (fun _ _ _ h => h) (Or.inr ⟨by rfl, rfl⟩) (by assumption) ?_
        try simp only [aP, lA, lZ, lS]
        refine wT (i := 51) (oi := ⟨some 56, _, _, _, _, _⟩) (v := undef) rfl (by kernel_rfl) (by kernel_rfl) (by kernel_rfl) (fun _ _ _ h => h) (Or.inr ⟨by rfl, rfl⟩) (by assumption) ?_
        try simp only [aP, lA, lZ, lS]
        refine wT (i := 52) (oi := ⟨some 57, _, _, _, _, _⟩) (v := undef) rfl (by kernel_rfl) (by kernel_rfl) (by kernel_rfl) (fun _ _ _ h => h) (Or.inr ⟨by rfl, rfl⟩) (by assumption) ?_
        try simp only [aP, lA, lZ, lS]
        refine wT (i := 53) (oi := ⟨some 58, _, _, _, _, _⟩) (v := ?va63x53) rfl (by kernel_rfl) (by kernel_rfl) (by kernel_rfl) (fun _ _ _ h => h) (Or.inl ⟨by rfl, ?hya63x53⟩) (by assumption) ?ra63x53
        case hya63x53 => (intro wz hSw; (try dsimp only at hSw); go_simp <;> try with_reducible rfl)
        try simp only [aP, lA, lZ, lS]
        refine wT (i := 54) (oi := ⟨some 4, _, _, _, _, _⟩) (v := ?va64x54) rfl (by kernel_rfl) (by kernel_rfl) (by kernel_rfl) (fun _ _ _ h => h) (Or.inl ⟨by rfl, ?hya64x54⟩) (by assumption) ?ra64x54
        case hya64x54 => (intro wz hSw; (try dsimp only at hSw); go_simp <;> try with_reducible rfl)
        try simp only [aP, lA, lZ, lS]
        refine wpAnyH_done (by kernel_rfl) ?_ _
        go_wp2_with fail
        go_ret
        exact ⟨rfl, H.out.below⟩
      · refine wT (i := 15) (oi := ⟨some 20, _, _, _, _, _⟩) (v := ?va49x15) rfl (by kernel_rfl) (by kernel_rfl) (by kernel_rfl) (fun _ _ _ h => h) (Or.inl ⟨by rfl, ?hya49x15⟩) (by assumption) ?ra49x15
        case hya49x15 => (intro wz hSw; (try dsimp only at hSw); go_simp <;> try with_reducible rfl)
        try simp only [aP, lA, lZ, lS]
        refine wT (i := 16) (oi := ⟨some 21, _, _, _, _, _⟩) (v := ?va50x16) rfl (by kernel_rfl) (by kernel_rfl) (by kernel_rfl) (fun _ _ _ h => h) (Or.inl ⟨by rfl, ?hya50x16⟩) (by assumption) ?ra50x16
        case hya50x16 => (intro wz hSw; (try dsimp only at hSw); go_simp <;> try with_reducible rfl)
        try simp only [aP, lA, lZ, lS]
        refine wT (i := 17) (oi := ⟨some 22, _, _, _, _, _⟩) (v := ?va65x17) rfl (by kernel_rfl) (by kernel_rfl) (by kernel_rfl) (fun _ _ _ h => h) (Or.inl ⟨by rfl, ?hya65x17⟩) (by assumption) ?ra65x17
        case hya65x17 => (intro wz hSw; (try dsimp only at hSw); go_simp <;> try with_reducible rfl)
        try simp only [aP, lA, lZ, lS]
        refine wT (i := 18) (oi := ⟨some 23, _, _, _, _, _⟩) (v := ?va66x18) rfl (by kernel_rfl) (by kernel_rfl) (by kernel_rfl) (fun _ _ _ h => h) (Or.inl ⟨by rfl, ?hya66x18⟩) (by assumption) ?ra66x18
        case hya66x18 => (intro wz hSw; (try dsimp only at hSw); go_simp <;> try with_reducible rfl)
        try simp only [aP, lA, lZ, lS]
        refine wT (i := 19) (oi := ⟨some 24, _, _, _, _, _⟩) (v := ?va67x19) rfl (by kernel_rfl) (by kernel_rfl) (by kernel_rfl) (fun _ _ _ h => h) (Or.inl ⟨by rfl, ?hya67x19⟩) (by assumption) ?ra67x19
        case hya67x19 => (intro wz hSw; (try dsimp only at hSw); go_simp <;> try with_reducible rfl)
        try simp only [aP, lA, lZ, lS]
        refine wT (i := 20) (oi := ⟨some 25, _, _, _, _, _⟩) (v := ?va68x20) rfl (by kernel_rfl) (by kernel_rfl) (by kernel_rfl) (fun _ _ _ h => h) (Or.inl ⟨by rfl, ?hya68x20⟩) (by assumption) ?ra68x20
        case hya68x20 => (intro wz hSw; (try dsimp only at hSw); go_simp <;> try with_reducible rfl)
        try simp only [aP, lA, lZ, lS]
        refine wT (i := 21) (oi := ⟨some 26, _, _, _, _, _⟩) (v := ?va69x21) rfl (by kernel_rfl) (by kernel_rfl) (by kernel_rfl) (fun _ _ _ h => h) (Or.inl ⟨by rfl, ?hya69x21⟩) (by assumption) ?ra69x21
        case hya69x21 => (intro wz hSw; (try dsimp only at hSw); go_simp <;> try with_reducible rfl)
        try simp only [aP, lA, lZ, lS]
        cases u4
        · refine wT (i := 22) (oi := ⟨some 27, _, _, _, _, _⟩) (v := ?va72x22) rfl (by kernel_rfl) (by kernel_rfl) (by kernel_rfl) (fun _ _ _ h => h) (Or.inl ⟨by rfl, ?hya72x22⟩) (by assumption) ?ra72x22
          case hya72x22 => (intro wz hSw; (try dsimp only at hSw); go_simp <;> try with_reducible rfl)
          try simp only [aP, lA, lZ, lS]
          refine wT (i := 23) (oi := ⟨some 28, _, _, _, _, _⟩) (v := ?va73x23) rfl (by kernel_rfl) (by kernel_rfl) (by kernel_rfl) (fun _ _ _ h => h) (Or.inl ⟨by rfl, ?hya73x23⟩) (by assumption) ?ra73x23
          case hya73x23 => (intro wz hSw; (try dsimp only at hSw); go_simp <;> try with_reducible rfl)
          try simp only [aP, lA, lZ, lS]
          refine wT (i := 24) (oi := ⟨some 29, _, _, _, _, _⟩) (v := undef) rfl (by kernel_rfl) (by kernel_rfl) (by kernel_rfl) (fun _ _ _ h => h) (Or.inr ⟨by rfl, rfl⟩) (by assumption) ?_
          try simp only [aP, lA, lZ, lS]
          refine wT (i := 25) (oi := ⟨some 30, _, _, _, _, _⟩) (v := undef) rfl (by kernel_rfl) (by kernel_rfl) (by kernel_rfl) (fun _ _ _ h => h) (Or.inr ⟨by rfl, rfl⟩) (by assumption) ?_
          try simp only [aP, lA, lZ, lS]
          refine wT (i := 26) (oi := ⟨some 31, _, _, _, _, _⟩) (v := undef) rfl (by kernel_rfl) (by kernel_rfl) (by kernel_rfl) (fun _ _ _ h => h) (Or.inr ⟨by rfl, rfl⟩) (by assumption) ?_
          try simp only [aP, lA, lZ, lS]
          refine wT (i := 27) (oi := ⟨some 32, _, _, _, _, _⟩) (v := undef) rfl (by kernel_rfl) (by kernel_rfl) (by kernel_rfl) (fun _ _ _ h => h) (Or.inr ⟨by rfl, rfl⟩) (by assumption) ?_
          try simp only [aP, lA, lZ, lS]
          refine wT (i := 28) (oi := ⟨some 33, _, _, _, _, _⟩) (v := undef) rfl (by kernel_rfl) (by kernel_rfl) (by kernel_rfl) (fun _ _ _ h => h) (Or.inr ⟨by rfl, rfl⟩) (by assumption) ?_
          try simp only [aP, lA, lZ, lS]
          refine wT (i := 29) (oi := ⟨some 34, _, _, _, _, _⟩) (v := ?va74x29) rfl (by kernel_rfl) (by kernel_rfl) (by kernel_rfl) (fun _ _ _ h => h) (Or.inl ⟨by rfl, ?hya74x29⟩) (by assumption) ?ra74x29
          case hya74x29 => (intro wz hSw; (try dsimp only at hSw); go_simp <;> try with_reducible rfl)
          try simp only [aP, lA, lZ, lS]
          refine wT (i := 30) (oi := ⟨some 35, _, _, _, _, _⟩) (v := ?va75x30) rfl (by kernel_rfl) (by kernel_rfl) (by kernel_rfl) (fun _ _ _ h => h) (Or.inl ⟨by rfl, ?hya75x30⟩) (by assumption) ?ra75x30
          case hya75x30 => (intro wz hSw; (try dsimp only at hSw); go_simp <;> try with_reducible rfl)
          try simp only [aP, lA, lZ, lS]
          refine wT (i := 31) (oi := ⟨some 36, _, _, _, _, _⟩) (v := undef) rfl (by kernel_rfl) (by kernel_rfl) (by kernel_rfl) (fun _ _ _ h => h) (Or.inr ⟨by rfl, rfl⟩) (by assumption) ?_
          try simp only [aP, lA, lZ, lS]
          refine wT (i := 32) (oi := ⟨some 37, _, _, _, _, _⟩) (v := undef) rfl (by kernel_rfl) (by kernel_rfl) (by kernel_rfl) (fun _ _ _ h => h) (Or.inr ⟨by rfl, rfl⟩) (by assumption) ?_
          try simp only [aP, lA, lZ, lS]
          refine wT (i := 33) (oi := ⟨some 38, _, _, _, _, _⟩) (v := undef) rfl (by kernel_rfl) (by kernel_rfl) (by kernel_rfl) (fun _ _ _ h => h) (Or.inr ⟨by rfl, rfl⟩) (by assumption) ?_
          try simp only [aP, lA, lZ, lS]
          refine wT (i := 34) (oi := ⟨some 39, _, _, _, _, _⟩) (v := undef) rfl (by kernel_rfl) (by kernel_rfl) (by kernel_rfl) (fun _ _ _ h => h) (Or.inr ⟨by rfl, rfl⟩) (by assumption) ?_
          try simp only [aP, lA, lZ, lS]
          refine wT (i := 35) (oi := ⟨some 40, _, _, _, _, _⟩) (v := undef) rfl (by kernel_rfl) (by kernel_rfl) (by kernel_rfl) (fun _ _ _ h => h) (Or.inr ⟨by rfl, rfl⟩) (by assumption) ?_
          try simp only [aP, lA, lZ, lS]
          refine wT (i := 36) (oi := ⟨some 41, _, _, _, _, _⟩) (v := ?va76x36) rfl (by kernel_rfl) (by kernel_rfl) (by kernel_rfl) (fun _ _ _ h => h) (Or.inl ⟨by rfl, ?hya76x36⟩) (by assumption) ?ra76x36
          case hya76x36 => (intro wz hSw; (try dsimp only at hSw); go_simp <;> try with_reducible rfl)
          try simp only [aP, lA, lZ, lS]
          refine wT (i := 37) (oi := ⟨some 42, _, _, _, _, _⟩) (v := ?va77x37) rfl (by kernel_rfl) (by kernel_rfl) (by kernel_rfl) (fun _ _ _ h => h) (Or.inl ⟨by rfl, ?hya77x37⟩) (by assumption) ?ra77x37
          case hya77x37 => (intro wz hSw; (try dsimp only at hSw); go_simp <;> try with_reducible rfl)
          try simp only [aP, lA, lZ, lS]
          refine wT (i := 38) (oi := ⟨some 43, _, _, _, _, _⟩) (v := undef) rfl (by kernel_rfl) (by kernel_rfl) (by kernel_rfl) (fun _ _ _ h => h) (Or.inr ⟨by rfl, rfl⟩) (by assumption) ?_
          try simp only [aP, lA, lZ, lS]
          refine wT (i := 40) (oi := ⟨some 45, _, _, _, _, _⟩) (v := undef) rfl (by kernel_rfl) (by kernel_rfl) (by kernel_rfl) (fun _ _ _ h => h) (Or.inr ⟨by rfl, rfl⟩) (by assumption) ?_
          try simp only [aP, lA, lZ, lS]
          refine wT (i := 39) (oi := ⟨some 44, _, _, _, _, _⟩) (v := undef) rfl (by kernel_rfl) (by kernel_rfl) (by kernel_rfl) (fun _ _ _ h => h) (Or.inr ⟨by rfl, rfl⟩) (by assumption) ?_
          try simp only [aP, lA, lZ, lS]
          refine wT (i := 41) (oi := ⟨some 46, _, _, _, _, _⟩) (v := undef) rfl (by kernel_rfl) (by kernel_rfl) (by kernel_rfl) (fun _ _ _ h => h) (Or.inr ⟨by rfl, rfl⟩) (by assumption) ?_
          try simp only [aP, lA, lZ, lS]
          refine wT (i := 42) (oi := ⟨some 47, _, _, _, _, _⟩) (v := undef) rfl (by kernel_rfl) (by kernel_rfl) (by kernel_rfl) (fun _ _ _ h => h) (Or.inr ⟨by rfl, rfl⟩) (by assumption) ?_
          try simp only [aP, lA, lZ, lS]
          refine wT (i := 43) (oi := ⟨some 48, _, _, _, _, _⟩) (v := ?va78x43) rfl (by kernel_rfl) (by kernel_rfl) (by kernel_rfl) (fun _ _ _ h => h) (Or.inl ⟨by rfl, ?hya78x43⟩) (by assumption) ?ra78x43
          case hya78x43 => (intro wz hSw; (try dsimp only at hSw); go_simp <;> try with_reducible rfl)
          try simp only [aP, lA, lZ, lS]
          refine wT (i := 44) (oi := ⟨some 49, _, _, _, _, _⟩) (v := ?va79x44) rfl (by kernel_rfl) (by kernel_rfl) (by kernel_rfl) (fun _ _ _ h => h) (Or.inl ⟨by rfl, ?hya79x44⟩) (by assumption) ?ra79x44
          case hya79x44 => (intro wz hSw; (try dsimp only at hSw); go_simp <;> try with_reducible rfl)
          try simp only [aP, lA, lZ, lS]
          refine wT (i := 45) (oi := ⟨some 50, _, _, _, _, _⟩) (v := undef) rfl (by kernel_rfl) (by kernel_rfl) (by kernel_rfl) (fun _ _ _ h => h) (Or.inr ⟨by rfl, rfl⟩) (by assumption) ?_
          try simp only [aP, lA, lZ, lS]
          refine wT (i := 46) (oi := ⟨some 51, _, _, _, _, _⟩) (v := undef) rfl (by kernel_rfl) (by kernel_rfl) (by kernel_rfl) (fun _ _ _ h => h) (Or.inr ⟨by rfl, rfl⟩) (by assumption) ?_
          try simp only [aP, lA, lZ, lS]
          refine wT (i := 47) (oi := ⟨some 52, _, _, _, _, _⟩) (v := undef) rfl (by kernel_rfl) (by kernel_rfl) (by kernel_rfl) (fun _ _ _ h => h) (Or.inr ⟨by rfl, rfl⟩) (by assumption) ?_
          try simp only [aP, lA, lZ, lS]
          refine wT (i := 48) (oi := ⟨some 53, _, _, _, _, _⟩) (v := ?va80x48) rfl (by kernel_rfl) (by kernel_rfl) (by kernel_rfl) (fun _ _ _ h => h) (Or.inl ⟨by rfl, ?hya80x48⟩) (by assumption) ?ra80x48
          case hya80x48 => (intro wz hSw; (try dsimp only at hSw); go_simp <;> try with_reducible rfl)
          try simp only [aP, lA, lZ, lS]
          refine wT (i := 49) (oi := ⟨some 54, _, _, _, _, _⟩) (v := ?va81x49) rfl (by kernel_rfl) (by kernel_rfl) (by kernel_rfl) (fun _ _ _ h => h) (Or.inl ⟨by rfl, ?hya81x49⟩) (by assumption) ?ra81x49
          case hya81x49 => (intro wz hSw; (try dsimp only at hSw); go_simp <;> try with_reducible rfl)
          try simp only [aP, lA, lZ, lS]
          refine wT (i := 50) (oi := ⟨some 55, _, _, _, _, _⟩) (v := undef) rfl (by kernel_rfl) (by kernel_rfl) (by kernel_rfl) (fun _ _ _ h => h) (Or.inr ⟨by rfl, rfl⟩) (by assumption) ?_
          try simp only [aP, lA, lZ, lS]
          refine wT (i := 51) (oi := ⟨some 56, _, _, _, _, _⟩) (v := undef) rfl (by kernel_rfl) (by kernel_rfl) (by kernel_rfl) (fun _ _ _ h => h) (Or.inr ⟨by rfl, rfl⟩) (by assumption) ?_
          try simp only [aP, lA, lZ, lS]
          refine wT (i := 52) (oi := ⟨some 57, _, _, _, _, _⟩) (v := undef) rfl (by kernel_rfl) (by kernel_rfl) (by kernel_rfl) (fun _ _ _ h => h) (Or.inr ⟨by rfl, rfl⟩) (by assumption) ?_
          try simp only [aP, lA, lZ, lS]
          refine wT (i := 53) (oi := ⟨some 58, _, _, _, _, _⟩) (v := ?va82x53) rfl (by kernel_rfl) (by kernel_rfl) (by kernel_rfl) (fun _ _ _ h => h) (Or.inl ⟨by rfl, ?hya82x53⟩) (by assumption) ?ra82x53
          case hya82x53 => (intro wz hSw; (try dsimp only at hSw); go_simp <;> try with_reducible rfl)
          try simp only [aP, lA, lZ, lS]
          refine wT (i := 54) (oi := ⟨some 4, _, _, _, _, _⟩) (v := ?va83x54) rfl (by kernel_rfl) (by kernel_rfl) (by kernel_rfl) (fun _ _ _ h => h) (Or.inl ⟨by rfl, ?hya83x54⟩) (by assumption) ?ra83x54
          case hya83x54 => (intro wz hSw; (try dsimp only at hSw); go_simp <;> try with_reducible rfl)
          try simp only [aP, lA, lZ, lS]
          refine wpAnyH_done (by kernel_rfl) ?_ _
          go_wp2_with fail
          go_ret
          exact ⟨rfl, H.out.below⟩
        · refine wT (i := 22) (oi := ⟨some 27, _, _, _, _, _⟩) (v := ?va70x22) rfl (by kernel_rfl) (by kernel_rfl) (by kernel_rfl) (fun _ _ _ h => h) (Or.inl ⟨by rfl, ?hya70x22⟩) (by assumption) ?ra70x22
          case hya70x22 => (intro wz hSw; (try dsimp only at hSw); go_simp <;> try with_reducible rfl)
          try simp only [aP, lA, lZ, lS]
          refine wT (i := 23) (oi := ⟨some 28, _, _, _, _, _⟩) (v := ?va71x23) rfl (by kernel_rfl) (by kernel_rfl) (by kernel_rfl) (fun _ _ _ h => h) (Or.inl ⟨by rfl, ?hya71x23⟩) (by assumption) ?ra71x23
          case hya71x23 => (intro wz hSw; (try dsimp only at hSw); go_simp <;> try with_reducible rfl)
          try simp only [aP, lA, lZ, lS]
          refine wT (i := 24) (oi := ⟨some 29, _, _, _, _, _⟩) (v := ?va84x24) rfl (by kernel_rfl) (by kernel_rfl) (by kernel_rfl) (fun _ _ _ h => h) (Or.inl ⟨by rfl, ?hya84x24⟩) (by assumption) ?ra84x24
          case hya84x24 => (intro wz hSw; (try dsimp only at hSw); go_simp <;> try with_reducible rfl)
          try simp only [aP, lA, lZ, lS]
          refine wT (i := 25) (oi := ⟨some 30, _, _, _, _, _⟩) (v := ?va85x25) rfl (by kernel_rfl) (by kernel_rfl) (by kernel_rfl) (fun _ _ _ h => h) (Or.inl ⟨by rfl, ?hya85x25⟩) (by assumption) ?ra85x25
          case hya85x25 => (intro wz hSw; (try dsimp only at hSw); go_simp <;> try with_reducible rfl)
          try simp only [aP, lA, lZ, lS]
          refine wT (i := 26) (oi := ⟨some 31, _, _, _, _, _⟩) (v := ?va86x26) rfl (by kernel_rfl) (by kernel_rfl) (by kernel_rfl) (fun _ _ _ h => h) (Or.inl ⟨by rfl, ?hya86x26⟩) (by assumption) ?ra86x26
          case hya86x26 => (intro wz hSw; (try dsimp only at hSw); go_simp <;> try with_reducible rfl)
          try simp only [aP, lA, lZ, lS]
          refine wT (i := 27) (oi := ⟨some 32, _, _, _, _, _⟩) (v := ?va87x27) rfl (by kernel_rfl) (by kernel_rfl) (by kernel_rfl) (fun _ _ _ h => h) (Or.inl ⟨by rfl, ?hya87x27⟩) (by assumption) ?ra87x27
          case hya87x27 => (intro wz hSw; (try dsimp only at hSw); go_simp <;> try with_reducible rfl)
          try simp only [aP, lA, lZ, lS]
          refine wT (i := 28) (oi := ⟨some 33, _, _, _, _, _⟩) (v := ?va88x28) rfl (by kernel_rfl) (by kernel_rfl) (by kernel_rfl) (fun _ _ _ h => h) (Or.inl ⟨by rfl, ?hya88x28⟩) (by assumption) ?ra88x28
          case hya88x28 => (intro wz hSw; (try dsimp only at hSw); go_simp <;> try with_reducible rfl)
          try simp only [aP, lA, lZ, lS]
          cases u5
          · refine wT (i := 29) (oi := ⟨some 34, _, _, _, _, _⟩) (v := ?va91x29) rfl (by kernel_rfl) (by kernel_rfl) (by kernel_rfl) (fun _ _ _ h => h) (Or.inl ⟨by rfl, ?hya91x29⟩) (by assumption) ?ra91x29
            case hya91x29 => (intro wz hSw; (try dsimp only at hSw); go_simp <;> try with_reducible rfl)
            try simp only [aP, lA, lZ, lS]
            refine wT (i := 30) (oi := ⟨some 35, _, _, _, _, _⟩) (v := ?va92x30) rfl (by kernel_rfl) (by kernel_rfl) (by kernel_rfl) (fun _ _ _ h => h) (Or.inl ⟨by rfl, ?hya92x30⟩) (by assumption) ?ra92x30
            case hya92x30 => (intro wz hSw; (try dsimp only at hSw); go_simp <;> try with_reducible rfl)
            try simp only [aP, lA, lZ, lS]
            refine wT (i := 31) (oi := ⟨some 36, _, _, _, _, _⟩) (v := undef) rfl (by kernel_rfl) (by kernel_rfl) (by kernel_rfl) (fun _ _ _ h => h) (Or.inr ⟨by rfl, rfl⟩) (by assumption) ?_
            try simp only [aP, lA, lZ, lS]
            refine wT (i := 32) (oi := ⟨some 37, _, _, _, _, _⟩) (v := undef) rfl (by kernel_rfl) (by kernel_rfl) (by kernel_rfl) (fun _ _ _ h => h) (Or.inr ⟨by rfl, rfl⟩) (by assumption) ?_
            try simp only [aP, lA, lZ, lS]
            refine wT (i := 33) (oi := ⟨some 38, _, _, _, _, _⟩) (v := undef) rfl (by kernel_rfl) (by kernel_rfl) (by kernel_rfl) (fun _ _ _ h => h) (Or.inr ⟨by rfl, rfl⟩) (by assumption) ?_
            try simp only [aP, lA, lZ, lS]
            refine wT (i := 34) (oi := ⟨some 39, _, _, _, _, _⟩) (v := undef) rfl (by kernel_rfl) (by kernel_rfl) (by kernel_rfl) (fun _ _ _ h => h) (Or.inr ⟨by rfl, rfl⟩) (by assumption) ?_
            try simp only [aP, lA, lZ, lS]
            refine wT (i := 35) (oi := ⟨some 40, _, _, _, _, _⟩) (v := undef) rfl (by kernel_rfl) (by kernel_rfl) (by kernel_rfl) (fun _ _ _ h => h) (Or.inr ⟨by rfl, rfl⟩) (by assumption) ?_
            try simp only [aP, lA, lZ, lS]
            refine wT (i := 36) (oi := ⟨some 41, _, _, _, _, _⟩) (v := ?va93x36) rfl (by kernel_rfl) (by kernel_rfl) (by kernel_rfl) (fun _ _ _ h => h) (Or.inl ⟨by rfl, ?hya93x36⟩) (by assumption) ?ra93x36
            case hya93x36 => (intro wz hSw; (try dsimp only at hSw); go_simp <;> try with_reducible rfl)
            try simp only [aP, lA, lZ, lS]
            refine wT (i := 37) (oi := ⟨some 42, _, _, _, _, _⟩) (v := ?va94x37) rfl (by kernel_rfl) (by kernel_rfl) (by kernel_rfl) (fun _ _ _ h => h) (Or.inl ⟨by rfl, ?hya94x37⟩) (by assumption) ?ra94x37
            case hya94x37 => (intro wz hSw; (try dsimp only at hSw); go_simp <;> try with_reducible rfl)
            try simp only [aP, lA, lZ, lS]
            refine wT (i := 38) (oi := ⟨some 43, _, _, _, _, _⟩) (v := undef) rfl (by kernel_rfl) (by kernel_rfl) (by kernel_rfl) (fun _ _ _ h => h) (Or.inr ⟨by rfl, rfl⟩) (by assumption) ?_
            try simp only [aP, lA, lZ, lS]
            refine wT (i := 40) (oi := ⟨some 45, _, _, _, _, _⟩) (v := undef) rfl (by kernel_rfl) (by kernel_rfl) (by kernel_rfl) (fun _ _ _ h => h) (Or.inr ⟨by rfl, rfl⟩) (by assumption) ?_
            try simp only [aP, lA, lZ, lS]
            refine wT (i := 39) (oi := ⟨some 44, _, _, _, _, _⟩) (v := undef) rfl (by kernel_rfl) (by kernel_rfl) (by kernel_rfl) (fun _ _ _ h => h) (Or.inr ⟨by rfl, rfl⟩) (by assumption) ?_
            try simp only [aP, lA, lZ, lS]
            refine wT (i := 41) (oi := ⟨some 46, _, _, _, _, _⟩) (v := undef) rfl (by kernel_rfl) (by kernel_rfl) (by kernel_rfl) (fun _ _ _ h => h) (Or.inr ⟨by rfl, rfl⟩) (by assumption) ?_
            try simp only [aP, lA, lZ, lS]
            refine wT (i := 42) (oi := ⟨some 47, _, _, _, _, _⟩) (v := undef) rfl (by kernel_rfl) (by kernel_rfl) (by kernel_rfl) (fun _ _ _ h => h) (Or.inr ⟨by rfl, rfl⟩) (by assumption) ?_
            try simp only [aP, lA, lZ, lS]
            refine wT (i := 43) (oi := ⟨some 48, _, _, _, _, _⟩) (v := ?va95x43) rfl (by kernel_rfl) (by kernel_rfl) (by kernel_rfl) (fun _ _ _ h => h) (Or.inl ⟨by rfl, ?hya95x43⟩) (by assumption) ?ra95x43
            case hya95x43 => (intro wz hSw; (try dsimp only at hSw); go_simp <;> try with_reducible rfl)
            try simp only [aP, lA, lZ, lS]
            refine wT (i := 44) (oi := ⟨some 49, _, _, _, _, _⟩) (v := ?va96x44) rfl (by kernel_rfl) (by kernel_rfl) (by kernel_rfl) (fun _ _ _ h => h) (Or.inl ⟨by rfl, ?hya96x44⟩) (by assumption) ?ra96x44
            case hya96x44 => (intro wz hSw; (try dsimp only at hSw); go_simp <;> try with_reducible rfl)
            try simp only [aP, lA, lZ, lS]
            refine wT (i := 45) (oi := ⟨some 50, _, _, _, _, _⟩) (v := undef) rfl (by kernel_rfl) (by kernel_rfl) (by kernel_rfl) (fun _ _ _ h => h) (Or.inr ⟨by rfl, rfl⟩) (by assumption) ?_
            try simp only [aP, lA, lZ, lS]
            refine wT (i := 46) (oi := ⟨some 51, _, _, _, _, _⟩) (v := undef) rfl (by kernel_rfl) (by kernel_rfl) (by kernel_rfl) (fun _ _ _ h => h) (Or.inr ⟨by rfl, rfl⟩) (by assumption) ?_
            try simp only [aP, lA, lZ, lS]
            refine wT (i := 47) (oi := ⟨some 52, _, _, _, _, _⟩) (v := undef) rfl (by kernel_rfl) (by kernel_rfl) (by kernel_rfl) (fun _ _ _ h => h) (Or.inr ⟨by rfl, rfl⟩) (by assumption) ?_
            try simp only [aP, lA, lZ, lS]
            refine wT (i := 48) (oi := ⟨some 53, _, _, _, _, _⟩) (v := ?va97x48) rfl (by kernel_rfl) (by kernel_rfl) (by kernel_rfl) (fun _ _ _ h => h) (Or.inl ⟨by rfl, ?hya97x48⟩) (by assumption) ?ra97x48
            case hya97x48 => (intro wz hSw; (try dsimp only at hSw); go_simp <;> try with_reducible rfl)
            try simp only [aP, lA, lZ, lS]
            refine wT (i := 49) (oi := ⟨some 54, _, _, _, _, _⟩) (v := ?va98x49) rfl (by kernel_rfl) (by kernel_rfl) (by kernel_rfl) (fun _ _ _ h => h) (Or.inl ⟨by rfl, ?hya98x49⟩) (by assumption) ?ra98x49
            case hya98x49 => (intro wz hSw; (try dsimp only at hSw); go_simp <;> try with_reducible rfl)
            try simp only [aP, lA, lZ, lS]
            refine wT (i := 50) (oi := ⟨some 55, _, _, _, _, _⟩) (v := undef) rfl (by kernel_rfl) (by kernel_rfl) (by kernel_rfl) (fun _ _ _ h => h) (Or.inr ⟨by rfl, rfl⟩) (by assumption) ?_
            try simp only [aP, lA, lZ, lS]
            refine wT (i := 51) (oi := ⟨some 56, _, _, _, _, _⟩) (v := undef) rfl (by kernel_rfl) (by kernel_rfl) (by kernel_rfl) (fun _ _ _ h => h) (Or.inr ⟨by rfl, rfl⟩) (by assumption) ?_
            try simp only [aP, lA, lZ, lS]
            refine wT (i := 52) (oi := ⟨some 57, _, _, _, _, _⟩) (v := undef) rfl (by kernel_rfl) (by kernel_rfl) (by kernel_rfl) (fun _ _ _ h => h) (Or.inr ⟨by rfl, rfl⟩) (by assumption) ?_
            try simp only [aP, lA, lZ, lS]
            refine wT (i := 53) (oi := ⟨some 58, _, _, _, _, _⟩) (v := ?va99x53) rfl (by kernel_rfl) (by kernel_rfl) (by kernel_rfl) (fun _ _ _ h => h) (Or.inl ⟨by rfl, ?hya99x53⟩) (by assumption) ?ra99x53
            case hya99x53 => (intro wz hSw; (try dsimp only at hSw); go_simp <;> try with_reducible rfl)
            try simp only [aP, lA, lZ, lS]
            refine wT (i := 54) (oi := ⟨some 4, _, _, _, _, _⟩) (v := ?va100x54) rfl (by kernel_rfl) (by kernel_rfl) (by kernel_rfl) (fun _ _ _ h => h) (Or.inl ⟨by rfl, ?hya100x54⟩) (by assumption) ?ra100x54
            case hya100x54 => (intro wz hSw; (try dsimp only at hSw); go_simp <;> try with_reducible rfl)
            try simp only [aP, lA, lZ, lS]
            refine wpAnyH_done (by kernel_rfl) ?_ _
            go_wp2_with fail
            go_ret
            exact ⟨rfl, H.out.below⟩
          · refine wT (i := 29) (oi := ⟨some 34, _, _, _, _, _⟩) (v := ?va89x29) rfl (by kernel_rfl) (by kernel_rfl) (by kernel_rfl) (fun _ _ _ h => h) (Or.inl ⟨by rfl, ?hya89x29⟩) (by assumption) ?ra89x29
            case hya89x29 => (intro wz hSw; (try dsimp only at hSw); go_simp <;> try with_reducible rfl)
            try simp only [aP, lA, lZ, lS]
            refine wT (i := 30) (oi := ⟨some 35, _, _, _, _, _⟩) (v := ?va90x30) rfl (by kernel_rfl) (by kernel_rfl) (by kernel_rfl) (fun _ _ _ h => h) (Or.inl ⟨by rfl, ?hya90x30⟩) (by assumption) ?ra90x30
            case hya90x30 => (intro wz hSw; (try dsimp only at hSw); go_simp <;> try with_reducible rfl)
            try simp only [aP, lA, lZ, lS]
            refine wT (i := 31) (oi := ⟨some 36, _, _, _, _, _⟩) (v := ?va101x31) rfl (by kernel_rfl) (by kernel_rfl) (by kernel_rfl) (fun _ _ _ h => h) (Or.inl ⟨by rfl, ?hya101x31⟩) (by assumption) ?ra101x31
            case hya101x31 => (intro wz hSw; (try dsimp only at hSw); go_simp <;> try with_reducible rfl)
            try simp only [aP, lA, lZ, lS]
            refine wT (i := 32) (oi := ⟨some 37, _, _, _, _, _⟩) (v := ?va102x32) rfl (by kernel_rfl) (by kernel_rfl) (by kernel_rfl) (fun _ _ _ h => h) (Or.inl ⟨by rfl, ?hya102x32⟩) (by assumption) ?ra102x32
            case hya102x32 => (intro wz hSw; (try dsimp only at hSw); go_simp <;> try with_reducible rfl)
            try simp only [aP, lA, lZ, lS]
            refine wT (i := 33) (oi := ⟨some 38, _, _, _, _, _⟩) (v := ?va103x33) rfl (by kernel_rfl) (by kernel_rfl) (by kernel_rfl) (fun _ _ _ h => h) (Or.inl ⟨by rfl, ?hya103x33⟩) (by assumption) ?ra103x33
            case hya103x33 => (intro wz hSw; (try dsimp only at hSw); go_simp <;> try with_reducible rfl)
            try simp only [aP, lA, lZ, lS]
            refine wT (i := 34) (oi := ⟨some 39, _, _, _, _, _⟩) (v := ?va104x34) rfl (by kernel_rfl) (by kernel_rfl) (by kernel_rfl) (fun _ _ _ h => h) (Or.inl ⟨by rfl, ?hya104x34⟩) (by assumption) ?ra104x34
            case hya104x34 => (intro wz hSw; (try dsimp only at hSw); go_simp <;> try with_reducible rfl)
            try simp only [aP, lA, lZ, lS]
            refine wT (i := 35) (oi := ⟨some 40, _, _, _, _, _⟩) (v := ?va105x35) rfl (by kernel_rfl) (by kernel_rfl) (by kernel_rfl) (fun _ _ _ h => h) (Or.inl ⟨by rfl, ?hya105x35⟩) (by assumption) ?ra105x35
            case hya105x35 => (intro wz hSw; (try dsimp only at hSw); go_simp <;> try with_reducible rfl)
            try simp only [aP, lA, lZ, lS]
            cases u6
            · refine wT (i := 36) (oi := ⟨some 41, _, _, _, _, _⟩) (v := ?va108x36) rfl (by kernel_rfl) (by kernel_rfl) (by kernel_rfl) (fun _ _ _ h => h) (Or.inl ⟨by rfl, ?hya108x36⟩) (by assumption) ?ra108x36
              case hya108x36 => (intro wz hSw; (try dsimp only at hSw); go_simp <;> try with_reducible rfl)
              try simp only [aP, lA, lZ, lS]
              refine wT (i := 37) (oi := ⟨some 42, _, _, _, _, _⟩) (v := ?va109x37) rfl (by kernel_rfl) (by kernel_rfl) (by kernel_rfl) (fun _ _ _ h => h) (Or.inl ⟨by rfl, ?hya109x37⟩) (by assumption) ?ra109x37
              case hya109x37 => (intro wz hSw; (try dsimp only at hSw); go_simp <;> try with_reducible rfl)
              try simp only [aP, lA, lZ, lS]
              refine wT (i := 38) (oi := ⟨some 43, _, _, _, _, _⟩) (v := undef) rfl (by kernel_rfl) (by kernel_rfl) (by kernel_rfl) (fun _ _ _ h => h) (Or.inr ⟨by rfl, rfl⟩) (by assumption) ?_
              try simp only [aP, lA, lZ, lS]
              refine wT (i := 40) (oi := ⟨some 45, _, _, _, _, _⟩) (v := undef) rfl (by kernel_rfl) (by kernel_rfl) (by kernel_rfl) (fun _ _ _ h => h) (Or.inr ⟨by rfl, rfl⟩) (by assumption) ?_
              try simp only [aP, lA, lZ, lS]
              refine wT (i := 39) (oi := ⟨some 44, _, _, _, _, _⟩) (v := undef) rfl (by kernel_rfl) (by kernel_rfl) (by kernel_rfl) (fun _ _ _ h => h) (Or.inr ⟨by rfl, rfl⟩) (by assumption) ?_
              try simp only [aP, lA, lZ, lS]
              refine wT (i := 41) (oi := ⟨some 46, _, _, _, _, _⟩) (v := undef) rfl (by kernel_rfl) (by kernel_rfl) (by kernel_rfl) (fun _ _ _ h => h) (Or.inr ⟨by rfl, rfl⟩) (by assumption) ?_
              try simp only [aP, lA, lZ, lS]
              refine wT (i := 42) (oi := ⟨some 47, _, _, _, _, _⟩) (v := undef) rfl (by kernel_rfl) (by kernel_rfl) (by kernel_rfl) (fun _ _ _ h => h) (Or.inr ⟨by rfl, rfl⟩) (by assumption) ?_
              try simp only [aP, lA, lZ, lS]
              refine wT (i := 43) (oi := ⟨some 48, _, _, _, _, _⟩) (v := ?va110x43) rfl (by kernel_rfl) (by kernel_rfl) (by kernel_rfl) (fun _ _ _ h => h) (Or.inl ⟨by rfl, ?hya110x43⟩) (by assumption) ?ra110x43
              case hya110x43 => (intro wz hSw; (try dsimp only at hSw); go_simp <;> try with_reducible rfl)
              try simp only [aP, lA, lZ, lS]
              refine wT (i := 44) (oi := ⟨some 49, _, _, _, _, _⟩) (v := ?va111x44) rfl (by kernel_rfl) (by kernel_rfl) (by kernel_rfl) (fun _ _ _ h => h) (Or.inl ⟨by rfl, ?hya111x44⟩) (by assumption) ?ra111x44
              case hya111x44 => (intro wz hSw; (try dsimp only at hSw); go_simp <;> try with_reducible rfl)
              try simp only [aP, lA, lZ, lS]
              refine wT (i := 45) (oi := ⟨some 50, _, _, _, _, _⟩) (v := undef) rfl (by kernel_rfl) (by kernel_rfl) (by kernel_rfl) (fun _ _ _ h => h) (Or.inr ⟨by rfl, rfl⟩) (by assumption) ?_
              try simp only [aP, lA, lZ, lS]
              refine wT (i := 46) (oi := ⟨some 51, _, _, _, _, _⟩) (v := undef) rfl (by kernel_rfl) (by kernel_rfl) (by kernel_rfl) (fun _ _ _ h => h) (Or.inr ⟨by rfl, rfl⟩) (by assumption) ?_
              try simp only [aP, lA, lZ, lS]
              refine wT (i := 47) (oi := ⟨some 52, _, _, _, _, _⟩) (v := undef) rfl (by kernel_rfl) (by kernel_rfl) (by kernel_rfl) (fun _ _ _ h => h) (Or.inr ⟨by rfl, rfl⟩) (by assumption) ?_
              try simp only [aP, lA, lZ, lS]
              refine wT (i := 48) (oi := ⟨some 53, _, _, _, _, _⟩) (v := ?va112x48) rfl (by kernel_rfl) (by kernel_rfl) (by kernel_rfl) (fun _ _ _ h => h) (Or.inl ⟨by rfl, ?hya112x48⟩) (by assumption) ?ra112x48
              case hya112x48 => (intro wz hSw; (try dsimp only at hSw); go_simp <;> try with_reducible rfl)
              try simp only [aP, lA, lZ, lS]
              refine wT (i := 49) (oi := ⟨some 54, _, _, _, _, _⟩) (v := ?va113x49) rfl (by kernel_rfl) (by kernel_rfl) (by kernel_rfl) (fun _ _ _ h => h) (Or.inl ⟨by rfl, ?hya113x49⟩) (by assumption) ?ra113x49
              case hya113x49 => (intro wz hSw; (try dsimp only at hSw); go_simp <;> try with_reducible rfl)
              try simp only [aP, lA, lZ, lS]
              refine wT (i := 50) (oi := ⟨some 55, _, _, _, _, _⟩) (v := undef) rfl (by kernel_rfl) (by kernel_rfl) (by kernel_rfl) (fun _ _ _ h => h) (Or.inr ⟨by rfl, rfl⟩) (by assumption) ?_
              try simp only [aP, lA, lZ, lS]
              refine wT (i := 51) (oi := ⟨some 56, _, _, _, _, _⟩) (v := undef) rfl (by kernel_rfl) (by kernel_rfl) (by kernel_rfl) (fun _ _ _ h => h) (Or.inr ⟨by rfl, rfl⟩) (by assumption) ?_
              try simp only [aP, lA, lZ, lS]
              refine wT (i := 52) (oi := ⟨some 57, _, _, _, _, _⟩) (v := undef) rfl (by kernel_rfl) (by kernel_rfl) (by kernel_rfl) (fun _ _ _ h => h) (Or.inr ⟨by rfl, rfl⟩) (by assumption) ?_
              try simp only [aP, lA, lZ, lS]
              refine wT (i := 53) (oi := ⟨some 58, _, _, _, _, _⟩) (v := ?va114x53) rfl (by kernel_rfl) (by kernel_rfl) (by kernel_rfl) (fun _ _ _ h => h) (Or.inl ⟨by rfl, ?hya114x53⟩) (by assumption) ?ra114x53
              case hya114x53 => (intro wz hSw; (try dsimp only at hSw); go_simp <;> try with_reducible rfl)
              try simp only [aP, lA, lZ, lS]
              refine wT (i := 54) (oi := ⟨some 4, _, _, _, _, _⟩) (v := ?va115x54) rfl (by kernel_rfl) (by kernel_rfl) (by kernel_rfl) (fun _ _ _ h => h) (Or.inl ⟨by rfl, ?hya115x54⟩) (by assumption) ?ra115x54
              case hya115x54 => (intro wz hSw; (try dsimp only at hSw); go_simp <;> try with_reducible rfl)
              try simp only [aP, lA, lZ, lS]
              refine wpAnyH_done (by kernel_rfl) ?_ _
              go_wp2_with fail
              go_ret
              exact ⟨rfl, H.out.below⟩
            · refine wT (i := 36) (oi := ⟨some 41, _, _, _, _, _⟩) (v := ?va106x36) rfl (by kernel_rfl) (by kernel_rfl) (by kernel_rfl) (fun _ _ _ h => h) (Or.inl ⟨by rfl, ?hya106x36⟩) (by assumption) ?ra106x36
              case hya106x36 => (intro wz hSw; (try dsimp only at hSw); go_simp <;> try with_reducible rfl)
              try simp only [aP, lA, lZ, lS]
              refine wT (i := 37) (oi := ⟨some 42, _, _, _, _, _⟩) (v := ?va107x37) rfl (by kernel_rfl) (by kernel_rfl) (by kernel_rfl) (fun _ _ _ h => h) (Or.inl ⟨by rfl, ?hya107x37⟩) (by assumption) ?ra107x37
              case hya107x37 => (intro wz hSw; (try dsimp only at hSw); go_simp <;> try with_reducible rfl)
              try simp only [aP, lA, lZ, lS]
              refine wT (i := 38) (oi := ⟨some 43, _, _, _, _, _⟩) (v := ?va116x38) rfl (by kernel_rfl) (by kernel_rfl) (by kernel_rfl) (fun _ _ _ h => h) (Or.inl ⟨by rfl, ?hya116x38⟩) (by assumption) ?ra116x38
              case hya116x38 => (intro wz hSw; (try dsimp only at hSw); go_simp <;> try with_reducible rfl)
              try simp only [aP, lA, lZ, lS]
              refine wT (i := 40) (oi := ⟨some 45, _, _, _, _, _⟩) (v := ?va117x40) rfl (by kernel_rfl) (by kernel_rfl) (by kernel_rfl) (fun _ _ _ h => h) (Or.inl ⟨by rfl, ?hya117x40⟩) (by assumption) ?ra117x40
              case hya117x40 => (intro wz hSw; (try dsimp only at hSw); go_simp <;> try with_reducible rfl)
              try simp only [aP, lA, lZ, lS]
              refine wpAnyH_ready (rs := [39]) (by kernel_rfl) (by simp) (AllReadyH.cons (o := ⟨some 44, _, _, _, _, _⟩) rfl (fun K hK => ?_) AllReadyH.nil)
              go_simp
              go_at_call 153
              refine (K4a.out _).mono ?_
              rintro e x39 ⟨rfl, hb39⟩
              replace H := keep (H.out.step hb39)
              clear hb39
              (try go_wp2_with fail)
              refine hK.out _ _ H.out.cells (fun hHeld => ?_)
              clear hK K
              try simp only [aP, lA, lZ, lS]
              refine wpAnyH_ready (rs := [41]) (by kernel_rfl) (by simp) (AllReadyH.cons (o := ⟨some 46, _, _, _, _, _⟩) rfl (fun K hK => ?_) AllReadyH.nil)
              go_simp
              go_at_call 153
              refine (K4b.out _).mono ?_
              rintro e x41 ⟨rfl, hb41⟩
              replace H := keep (H.out.step hb41)
              clear hb41
              (try go_wp2_with fail)
              refine hK.out _ _ H.out.cells (fun hHeld => ?_)
              clear hK K
              try simp only [aP, lA, lZ, lS]
              refine wT (i := 42) (oi := ⟨some 47, _, _, _, _, _⟩) (v := ?va118x42) rfl (by kernel_rfl) (by kernel_rfl) (by kernel_rfl) (fun _ _ _ h => h) (Or.inl ⟨by rfl, ?hya118x42⟩) (by assumption) ?ra118x42
              case hya118x42 => (intro wz hSw; (try dsimp only at hSw); go_simp <;> try with_reducible rfl)
              try simp only [aP, lA, lZ, lS]
              cases u7
              · refine wT (i := 43) (oi := ⟨some 48, _, _, _, _, _⟩) (v := ?va121x43) rfl (by kernel_rfl) (by kernel_rfl) (by kernel_rfl) (fun _ _ _ h => h) (Or.inl ⟨by rfl, ?hya121x43⟩) (by assumption) ?ra121x43
                case hya121x43 => (intro wz hSw; (try dsimp only at hSw); go_simp <;> try with_reducible rfl)
                try simp only [aP, lA, lZ, lS]
                refine wT (i := 44) (oi := ⟨some 49, _, _, _, _, _⟩) (v := ?va122x44) rfl (by kernel_rfl) (by kernel_rfl) (by kernel_rfl) (fun _ _ _ h => h) (Or.inl ⟨by rfl, ?hya122x44⟩) (by assumption) ?ra122x44
                case hya122x44 => (intro wz hSw; (try dsimp only at hSw); go_simp <;> try with_reducible rfl)
                try simp only [aP, lA, lZ, lS]
                refine wT (i := 45) (oi := ⟨some 50, _, _, _, _, _⟩) (v := undef) rfl (by kernel_rfl) (by kernel_rfl) (by kernel_rfl) (fun _ _ _ h => h) (Or.inr ⟨by rfl, rfl⟩) (by assumption) ?_
                try simp only [aP, lA, lZ, lS]
                refine wT (i := 46) (oi := ⟨some 51, _, _, _, _, _⟩) (v := undef) rfl (by kernel_rfl) (by kernel_rfl) (by kernel_rfl) (fun _ _ _ h => h) (Or.inr ⟨by rfl, rfl⟩) (by assumption) ?_
                try simp only [aP, lA, lZ, lS]
                refine wT (i := 47) (oi := ⟨some 52, _, _, _, _, _⟩) (v := undef) rfl (by kernel_rfl) (by kernel_rfl) (by kernel_rfl) (fun _ _ _ h => h) (Or.inr ⟨by rfl, rfl⟩) (by assumption) ?_
                try simp only [aP, lA, lZ, lS]
                refine wT (i := 48) (oi := ⟨some 53, _, _, _, _, _⟩) (v := ?va123x48) rfl (by kernel_rfl) (by kernel_rfl) (by kernel_rfl) (fun _ _ _ h => h) (Or.inl ⟨by rfl, ?hya123x48⟩) (by assumption) ?ra123x48
                case hya123x48 => (intro wz hSw; (try dsimp only at hSw); go_simp <;> try with_reducible rfl)
                try simp only [aP, lA, lZ, lS]
                refine wT (i := 49) (oi := ⟨some 54, _, _, _, _, _⟩) (v := ?va124x49) rfl (by kernel_rfl) (by kernel_rfl) (by kernel_rfl) (fun _ _ _ h => h) (Or.inl ⟨by rfl, ?hya124x49⟩) (by assumption) ?ra124x49
                case hya124x49 => (intro wz hSw; (try dsimp only at hSw); go_simp <;> try with_reducible rfl)
                try simp only [aP, lA, lZ, lS]
                refine wT (i := 50) (oi := ⟨some 55, _, _, _, _, _⟩) (v := undef) rfl (by kernel_rfl) (by kernel_rfl) (by kernel_rfl) (fun _ _ _ h => h) (Or.inr ⟨by rfl, rfl⟩) (by assumption) ?_
                try simp only [aP, lA, lZ, lS]
                refine wT (i := 51) (oi := ⟨some 56, _, _, _, _, _⟩) (v := undef) rfl (by kernel_rfl) (by kernel_rfl) (by kernel_rfl) (fun _ _ _ h => h) (Or.inr ⟨by rfl, rfl⟩) (by assumption) ?_
                try simp only [aP, lA, lZ, lS]
                refine wT (i := 52) (oi := ⟨some 57, _, _, _, _, _⟩) (v := undef) rfl (by kernel_rfl) (by kernel_rfl) (by kernel_rfl) (fun _ _ _ h => h) (Or.inr ⟨by rfl, rfl⟩) (by assumption) ?_
                try simp only [aP, lA, lZ, lS]
                refine wT (i := 53) (oi := ⟨some 58, _, _, _, _, _⟩) (v := ?va125x53) rfl (by kernel_rfl) (by kernel_rfl) (by kernel_rfl) (fun _ _ _ h => h) (Or.inl ⟨by rfl, ?hya125x53⟩) (by assumption) ?ra125x53
                case hya125x53 => (intro wz hSw; (try dsimp only at hSw); go_simp <;> try with_reducible rfl)
                try simp only [aP, lA, lZ, lS]
                refine wT (i := 54) (oi := ⟨some 4, _, _, _, _, _⟩) (v := ?va126x54) rfl (by kernel_rfl) (by kernel_rfl) (by kernel_rfl) (fun _ _ _ h => h) (Or.inl ⟨by rfl, ?hya126x54⟩) (by assumption) ?ra126x54
                case hya126x54 => (intro wz hSw; (try dsimp only at hSw); go_simp <;> try with_reducible rfl)
                try simp only [aP, lA, lZ, lS]
                refine wpAnyH_done (by kernel_rfl) ?_ _
                go_wp2_with fail
                go_ret
                exact ⟨rfl, H.out.below⟩
              · refine wT (i := 43) (oi := ⟨some 48, _, _, _, _, _⟩) (v := ?va119x43) rfl (by kernel_rfl) (by kernel_rfl) (by kernel_rfl) (fun _ _ _ h => h) (Or.inl ⟨by rfl, ?hya119x43⟩) (by assumption) ?ra119x43
                case hya119x43 => (intro wz hSw; (try dsimp only at hSw); go_simp <;> try with_reducible rfl)
                try simp only [aP, lA, lZ, lS]
                refine wT (i := 44) (oi := ⟨some 49, _, _, _, _, _⟩) (v := ?va120x44) rfl (by kernel_rfl) (by kernel_rfl) (by kernel_rfl) (fun _ _ _ h => h) (Or.inl ⟨by rfl, ?hya120x44⟩) (by assumption) ?ra120x44
                case hya120x44 => (intro wz hSw; (try dsimp only at hSw); go_simp <;> try with_reducible rfl)
                try simp only [aP, lA, lZ, lS]
                refine wT (i := 45) (oi := ⟨some 50, _, _, _, _, _⟩) (v := ?va127x45) rfl (by kernel_rfl) (by kernel_rfl) (by kernel_rfl) (fun _ _ _ h => h) (Or.inl ⟨by rfl, ?hya127x45⟩) (by assumption) ?ra127x45
                case hya127x45 => (intro wz hSw; (try dsimp only at hSw); go_simp <;> try with_reducible rfl)
                try simp only [aP, lA, lZ, lS]
                refine wpAnyH_ready (rs := [46]) (by kernel_rfl) (by simp) (AllReadyH.cons (o := ⟨some 51, _, _, _, _, _⟩) rfl (fun K hK => ?_) AllReadyH.nil)
                go_simp
                go_at_call 153
                refine (K1a.out _).mono ?_
                rintro e x46 ⟨rfl, hb46⟩
                replace H := keep (H.out.step hb46)
                clear hb46
                (try go_wp2_with fail)
                refine hK.out _ _ H.out.cells (fun hHeld => ?_)
                clear hK K
                try simp only [aP, lA, lZ, lS]
                refine wT (i := 47) (oi := ⟨some 52, _, _, _, _, _⟩) (v := ?va128x47) rfl (by kernel_rfl) (by kernel_rfl) (by kernel_rfl) (fun _ _ _ h => h) (Or.inl ⟨by rfl, ?hya128x47⟩) (by assumption) ?ra128x47
                case hya128x47 => (intro wz hSw; (try dsimp only at hSw); go_simp <;> try with_reducible rfl)
                try simp only [aP, lA, lZ, lS]
                cases u8
                · refine wT (i := 48) (oi := ⟨some 53, _, _, _, _, _⟩) (v := ?va129x48) rfl (by kernel_rfl) (by kernel_rfl) (by kernel_rfl) (fun _ _ _ h => h) (Or.inl ⟨by rfl, ?hya129x48⟩) (by assumption) ?ra129x48
                  case hya129x48 => (intro wz hSw; (try dsimp only at hSw); go_simp <;> try with_reducible rfl)
                  try simp only [aP, lA, lZ, lS]
                  refine wT (i := 49) (oi := ⟨some 54, _, _, _, _, _⟩) (v := ?va130x49) rfl (by kernel_rfl) (by kernel_rfl) (by kernel_rfl) (fun _ _ _ h => h) (Or.inl ⟨by rfl, ?hya130x49⟩) (by assumption) ?ra130x49
                  case hya130x49 => (intro wz hSw; (try dsimp only at hSw); go_simp <;> try with_reducible rfl)
                  try simp only [aP, lA, lZ, lS]
                  refine wT (i := 50) (oi := ⟨some 55, _, _, _, _, _⟩) (v := ?va131x50) rfl (by kernel_rfl) (by kernel_rfl) (by kernel_rfl) (fun _ _ _ h => h) (Or.inl ⟨by rfl, ?hya131x50⟩) (by assumption) ?ra131x50
                  case hya131x50 => (intro wz hSw; (try dsimp only at hSw); go_simp <;> try with_reducible rfl)
                  try simp only [aP, lA, lZ, lS]
                  refine wpAnyH_ready (rs := [51]) (by kernel_rfl) (by simp) (AllReadyH.cons (o := ⟨some 56, _, _, _, _, _⟩) rfl (fun K hK => ?_) AllReadyH.nil)
                  go_simp
                  go_at_call 153
                  refine (K2b.out _).mono ?_
                  rintro e x51 ⟨rfl, hb51⟩
                  replace H := keep (H.out.step hb51)
                  clear hb51
                  (try go_wp2_with fail)
                  refine hK.out _ _ H.out.cells (fun hHeld => ?_)
                  clear hK K
                  try simp only [aP, lA, lZ, lS]
                  refine wT (i := 52) (oi := ⟨some 57, _, _, _, _, _⟩) (v := ?va132x52) rfl (by kernel_rfl) (by kernel_rfl) (by kernel_rfl) (fun _ _ _ h => h) (Or.inl ⟨by rfl, ?hya132x52⟩) (by assumption) ?ra132x52
                  case hya132x52 => (intro wz hSw; (try dsimp only at hSw); go_simp <;> try with_reducible rfl)
                  try simp only [aP, lA, lZ, lS]
                  cases u9
                  · refine wT (i := 53) (oi := ⟨some 58, _, _, _, _, _⟩) (v := ?va133x53) rfl (by kernel_rfl) (by kernel_rfl) (by kernel_rfl) (fun _ _ _ h => h) (Or.inl ⟨by rfl, ?hya133x53⟩) (by assumption) ?ra133x53
                    case hya133x53 => (intro wz hSw; (try dsimp only at hSw); go_simp <;> try with_reducible rfl)
                    try simp only [aP, lA, lZ, lS]
                    refine wT (i := 54) (oi := ⟨some 4, _, _, _, _, _⟩) (v := ?va134x54) rfl (by kernel_rfl) (by kernel_rfl) (by kernel_rfl) (fun _ _ _ h => h) (Or.inl ⟨by rfl, ?hya134x54⟩) (by assumption) ?ra134x54
                    case hya134x54 => (intro wz hSw; (try dsimp only at hSw); go_simp <;> try with_reducible rfl)
                    try simp only [aP, lA, lZ, lS]
                    refine wpAnyH_done (by kernel_rfl) ?_ _
                    go_wp2_with fail
                    go_ret
                    exact ⟨rfl, H.out.below⟩
                  · refine wT (i := 53) (oi := ⟨some 58, _, _, _, _, _⟩) (v := ?va135x53) rfl (by kernel_rfl) (by kernel_rfl) (by kernel_rfl) (fun _ _ _ h => h) (Or.inl ⟨by rfl, ?hya135x53⟩) (by assumption) ?ra135x53
                    case hya135x53 => (intro wz hSw; (try dsimp only at hSw); go_simp <;> try with_reducible rfl)
                    try simp only [aP, lA, lZ, lS]
                    refine wT (i := 54) (oi := ⟨some 4, _, _, _, _, _⟩) (v := ?va136x54) rfl (by kernel_rfl) (by kernel_rfl) (by kernel_rfl) (fun _ _ _ h => h) (Or.inl ⟨by rfl, ?hya136x54⟩) (by assumption) ?ra136x54
                    case hya136x54 => (intro wz hSw; (try dsimp only at hSw); go_simp <;> try with_reducible rfl)
                    try simp only [aP, lA, lZ, lS]
                    refine wpAnyH_done (by kernel_rfl) ?_ _
                    go_wp2_with fail
                    go_ret
                    exact ⟨rfl, H.out.below⟩
                · refine wT (i := 48) (oi := ⟨some 53, _, _, _, _, _⟩) (v := ?va137x48) rfl (by kernel_rfl) (by kernel_rfl) (by kernel_rfl) (fun _ _ _ h => h) (Or.inl ⟨by rfl, ?hya137x48⟩) (by assumption) ?ra137x48
                  case hya137x48 => (intro wz hSw; (try dsimp only at hSw); go_simp <;> try with_reducible rfl)
                  try simp only [aP, lA, lZ, lS]
                  refine wT (i := 49) (oi := ⟨some 54, _, _, _, _, _⟩) (v := ?va138x49) rfl (by kernel_rfl) (by kernel_rfl) (by kernel_rfl) (fun _ _ _ h => h) (Or.inl ⟨by rfl, ?hya138x49⟩) (by assumption) ?ra138x49
                  case hya138x49 => (intro wz hSw; (try dsimp only at hSw); go_simp <;> try with_reducible rfl)
                  try simp only [aP, lA, lZ, lS]
                  refine wT (i := 50) (oi := ⟨some 55, _, _, _, _, _⟩) (v := undef) rfl (by kernel_rfl) (by kernel_rfl) (by kernel_rfl) (fun _ _ _ h => h) (Or.inr ⟨by rfl, rfl⟩) (by assumption) ?_
                  try simp only [aP, lA, lZ, lS]
                  refine wT (i := 51) (oi := ⟨some 56, _, _, _, _, _⟩) (v := undef) rfl (by kernel_rfl) (by kernel_rfl) (by kernel_rfl) (fun _ _ _ h => h) (Or.inr ⟨by rfl, rfl⟩) (by assumption) ?_
                  try simp only [aP, lA, lZ, lS]
                  refine wT (i := 52) (oi := ⟨some 57, _, _, _, _, _⟩) (v := undef) rfl (by kernel_rfl) (by kernel_rfl) (by kernel_rfl) (fun _ _ _ h => h) (Or.inr ⟨by rfl, rfl⟩) (by assumption) ?_
                  try simp only [aP, lA, lZ, lS]
                  refine wT (i := 53) (oi := ⟨some 58, _, _, _, _, _⟩) (v := ?va139x53) rfl (by kernel_rfl) (by kernel_rfl) (by kernel_rfl) (fun _ _ _ h => h) (Or.inl ⟨by rfl, ?hya139x53⟩) (by assumption) ?ra139x53
                  case hya139x53 => (intro wz hSw; (try dsimp only at hSw); go_simp <;> try with_reducible rfl)
                  try simp only [aP, lA, lZ, lS]
                  refine wT (i := 54) (oi := ⟨some 4, _, _, _, _, _⟩) (v := ?va140x54) rfl (by kernel_rfl) (by kernel_rfl) (by kernel_rfl) (fun _ _ _ h => h) (Or.inl ⟨by rfl, ?hya140x54⟩) (by assumption) ?ra140x54
                  case hya140x54 => (intro wz hSw; (try dsimp only at hSw); go_simp <;> try with_reducible rfl)
                  try simp only [aP, lA, lZ, lS]
                  refine wpAnyH_done (by kernel_rfl) ?_ _
                  go_wp2_with fail
                  go_ret
                  exact ⟨rfl, H.out.below⟩
end
end
end Go.Proofs.YtnlkdlnmffibhaaGreat
