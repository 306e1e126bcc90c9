/- The reference: which message chunks are, all of it. -/
import Derived.Test.YthpcblbciidmeaaSp6
namespace Go.Proofs.Ythpcblbciidmeaa
open Go.RowKit
set_option linter.unusedVariables false

section
variable {b o q c : Nat} {l : List CX} {w : World} {x y : CX}
end
end Go.Proofs.Ythpcblbciidmeaa
