/- Package split's reference: which chunk follows which. -/
import Derived.Test.YthpcblbciidmeaaCkM
import Derived.Test.YthpcblbciidmeaaPMath
import Derived.KernelRfl
import Derived.Laws.ResultCell
import Derived.Laws.Rows
import Derived.Deep.Cut
import Derived.BigQuiet
import Derived.Test.YthpcblbciidmeaaProg
namespace Go.Proofs.Ythpcblbciidmeaa
open Go.RowKit
set_option linter.unusedVariables false

theorem ret_bool {a b : Bool} (h : a = b) : Ending.returned (.bool a) = .returned (.bool b) := by rw [h]
theorem below_drewN {B : Nat} {a w : World} (h : Below B a w) (k : Nat) : Below B a (w.drewN k) := ⟨h.os, h.tape, h.output, h.size, h.block⟩
theorem lay2 (w : World) (X Y : Obj) : Below w.heap.size w ((w.alloc X).alloc Y) := (below_lay w X).alloc (below_lay w X).size Y
def CX.ch (x : CX) : Ch := ⟨x.kd, x.fl, x.a, x.b, x.ou, x.si, x.pp, x.bs⟩
/-- A chunk's bounds, as numbers. -/
structure CB (x : CX) : Prop where
  kd : 0 ≤ x.kd ∧ x.kd < 256
  fl : 0 ≤ x.fl ∧ x.fl < 256
  a : 0 ≤ x.a ∧ x.a < 4294967296
  ou : 0 ≤ x.ou ∧ x.ou < 65536
  si : 0 ≤ x.si ∧ x.si < 65536
  pp : 0 ≤ x.pp ∧ x.pp < 4294967296
theorem CV.cb {w : World} {x : CX} (h : CV w x) : CB x := ⟨h.kd, h.fl, h.a, h.ou, h.si, h.pp⟩
end Go.Proofs.Ythpcblbciidmeaa
