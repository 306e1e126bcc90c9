/- The types of a message and of a chunk, in this program. -/
import Derived.Test.YtbfmklbffmodjaaCkF
namespace Go.Proofs.Ytbfmklbffmodjaa
open Go.ChangeShapes Go.WideShapes Go.ChangeAt Go.RowKit Go.Deep
set_option linter.unusedVariables false

theorem msgTy : MsgTy Try.prog 26 :=
  ⟨_, _, _, _, 5, Try.underlying26, by kernel_rfl, by kernel_rfl, Try.underlying22, Try.underlying4, Try.underlying23, Try.underlying24, Try.underlying5, by kernel_rfl⟩
theorem chunkTy : ChunkTy Try.prog 39 :=
  ⟨_, _, _, _, _, _, _, _, _, _, _, _, 59, 23, 61, 54, 5, 5, _, _, Try.underlying39, by kernel_rfl, by kernel_rfl, Try.underlying5, Try.underlying5, Try.underlying23, Try.underlying23, Try.underlying22, Try.underlying22, Try.underlying23,
    Try.underlying34, Try.underlying35, Try.underlying36, Try.underlying37, Try.underlying24, Try.underlying54, Try.underlying22, Try.underlying24, by kernel_rfl, by kernel_rfl, Try.underlying5, by kernel_rfl⟩
end Go.Proofs.Ytbfmklbffmodjaa
