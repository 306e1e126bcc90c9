/- The types of a message and of a chunk, in this program. -/
import Derived.Test.YtapaiknghnbfmaaDoorCkF
namespace Go.Proofs.YtapaiknghnbfmaaDoor
open Go.ChangeShapes Go.WideShapes Go.ChangeAt Go.RowKit Go.Deep
set_option linter.unusedVariables false

theorem msgTy : MsgTy Tryd.prog 54 :=
  ⟨_, _, _, _, 5, Tryd.underlying54, by kernel_rfl, by kernel_rfl, Tryd.underlying22, Tryd.underlying4, Tryd.underlying23, Tryd.underlying27, Tryd.underlying5, by kernel_rfl⟩
end Go.Proofs.YtapaiknghnbfmaaDoor
