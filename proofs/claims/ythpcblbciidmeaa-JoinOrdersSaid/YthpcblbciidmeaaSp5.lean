/- Lists of chunks that are the same. -/
import Derived.Test.YthpcblbciidmeaaSp4
namespace Go.Proofs.Ythpcblbciidmeaa
open Go.RowKit
set_option linter.unusedVariables false

end Go.Proofs.Ythpcblbciidmeaa
