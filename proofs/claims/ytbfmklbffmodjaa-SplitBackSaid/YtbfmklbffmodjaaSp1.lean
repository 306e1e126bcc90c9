/- Package split's reference: which chunk follows which. -/
import Derived.Test.YtbfmklbffmodjaaCkM
import Derived.Test.YtbfmklbffmodjaaPMath
import Derived.KernelRfl
import Derived.Laws.ResultCell
import Derived.Laws.Rows
import Derived.Deep.Cut
import Derived.BigQuiet
import Derived.Test.YtbfmklbffmodjaaProg
namespace Go.Proofs.Ytbfmklbffmodjaa
open Go.RowKit
set_option linter.unusedVariables false

theorem ret_bool {a b : Bool} (h : a = b) : Ending.returned (.bool a) = .returned (.bool b) := by rw [h]
theorem below_drewN {B : Nat} {a w : World} (h : Below B a w) (k : Nat) : Below B a (w.drewN k) := ⟨h.os, h.tape, h.output, h.size, h.block⟩
theorem lay2 (w : World) (X Y : Obj) : Below w.heap.size w ((w.alloc X).alloc Y) := (below_lay w X).alloc (below_lay w X).size Y
def CX.ch (x : CX) : Ch := ⟨x.kd, x.fl, x.a, x.b, x.ou, x.si, x.pp, x.bs⟩
/-- A chunk's bounds, as numbers. -/
structure CB (x : CX) : Prop where
  kd : 0 ≤ x.kd ∧ x.kd < 256
  fl : 0 ≤ x.fl ∧ x.fl < 256
  a : 0 ≤ x.a ∧ x.a < 4294967296
  ou : 0 ≤ x.ou ∧ x.ou < 65536
  si : 0 ≤ x.si ∧ x.si < 65536
  pp : 0 ≤ x.pp ∧ x.pp < 4294967296
theorem CV.cb {w : World} {x : CX} (h : CV w x) : CB x := ⟨h.kd, h.fl, h.a, h.ou, h.si, h.pp⟩
set_option maxHeartbeats 1000000 in
theorem refFollows_any (x y : CX) (hx : CB x) (hy : CB y) (w : World) :
    Calls Try.prog 17 #[.agg x.cells.toArray, .agg y.cells.toArray] w fun e w' => e = .returned (.bool (fol x.ch y.ch)) ∧ Below w.heap.size w w' := by
  obtain ⟨r, hr⟩ : ∃ r, fol x.ch y.ch = r := ⟨_, rfl⟩
  rw [hr]
  obtain ⟨xk, xf, xa, xb, xo, xs, xp, ⟨x1, x2, x3⟩, ⟨x4, x5, x6⟩, ⟨x7, x8, x9⟩, ⟨x10, x11, x12⟩, ⟨x13, x14, x15⟩, xps, xbs⟩ := x
  obtain ⟨yk, yf, ya, yb, yo, ys, yp, ⟨y1, y2, y3⟩, ⟨y4, y5, y6⟩, ⟨y7, y8, y9⟩, ⟨y10, y11, y12⟩, ⟨y13, y14, y15⟩, yps, ybs⟩ := y
  obtain ⟨hk, hf, ha, ho, hs, hp⟩ := hx
  obtain ⟨hk', hf', ha', ho', hs', hp'⟩ := hy
  dsimp only at hk hf ha ho hs hp hk' hf' ha' ho' hs' hp'
  dsimp only [CX.cells, CX.ch, fol] at hr ⊢
  replace hr := keep hr
  go_enter Try.func17, Try.ntmps17
  go_wp2_with fail
  all_goals go_ret
  all_goals refine ⟨ret_bool ?_, by first | exact lay2 _ _ _ | exact below_drewN (lay2 _ _ _) _ | exact (lay2 _ _ _).drew⟩
  all_goals rw [← hr.out]
  all_goals clear hr
  all_goals first
    | (symm; exact decide_eq_false (fun hh => by simp_all; done))
    | (symm; exact decide_eq_false (fun hh => by simp_all; omega))
    | (symm; exact decide_eq_true (by simp_all; done))
    | (simp_all; done)
    | (by_cases hz : yf / 2 % 2 = 0 <;> simp_all; done)
    | (trace_state; fail)
end Go.Proofs.Ytbfmklbffmodjaa
