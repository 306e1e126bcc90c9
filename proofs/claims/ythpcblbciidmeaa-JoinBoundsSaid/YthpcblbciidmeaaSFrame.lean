/- The types of a message and of a chunk, in this program. -/
import Derived.Test.YthpcblbciidmeaaCkF
namespace Go.Proofs.Ythpcblbciidmeaa
open Go.ChangeShapes Go.WideShapes Go.ChangeAt Go.RowKit Go.Deep
set_option linter.unusedVariables false

theorem msgTy : MsgTy Try.prog 44 :=
  ⟨_, _, _, _, 5, Try.underlying44, by kernel_rfl, by kernel_rfl, Try.underlying27, Try.underlying4, Try.underlying26, Try.underlying32, Try.underlying5, by kernel_rfl⟩
theorem chunkTy : ChunkTy Try.prog 34 :=
  ⟨_, _, _, _, _, _, _, _, _, _, _, _, 108, 26, 55, 110, 5, 5, _, _, Try.underlying34, by kernel_rfl, by kernel_rfl, Try.underlying5, Try.underlying5, Try.underlying26, Try.underlying26, Try.underlying27, Try.underlying27, Try.underlying26,
    Try.underlying28, Try.underlying29, Try.underlying30, Try.underlying31, Try.underlying32, Try.underlying110, Try.underlying27, Try.underlying32, by kernel_rfl, by kernel_rfl, Try.underlying5, by kernel_rfl⟩
end Go.Proofs.Ythpcblbciidmeaa
