/- Chunks of few parts, all of them; the same chunks. -/
import Derived.Test.YthpcblbciidmeaaSp3
namespace Go.Proofs.Ythpcblbciidmeaa
open Go.RowKit
set_option linter.unusedVariables false

def fewLC (l : List CX) : Bool := decide (l.length ≤ 80) && l.all fewC
/-- No blocks, no repeats, no skips, no parameters. -/
def Plain (x : CX) : Prop := x.bl.2.1 = 0 ∧ x.du.2.1 = 0 ∧ x.sk.2.1 = 0 ∧ x.pr.2.1 = 0
end Go.Proofs.Ythpcblbciidmeaa
