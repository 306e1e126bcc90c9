/- Chunks of few parts; the same chunks. -/
import Derived.Test.YthpcblbciidmeaaSp2
namespace Go.Proofs.Ythpcblbciidmeaa
open Go.RowKit
set_option linter.unusedVariables false

def fewP (l : List PV) : Bool := l.all fun p => decide (p.2.2.1 ≤ 1300)
def fewC (x : CX) : Bool := decide (x.bl.2.1 ≤ 100) && decide (x.du.2.1 ≤ 100) && decide (x.sk.2.1 ≤ 100) && decide (x.pr.2.1 ≤ 40) && decide (x.da.2.1 ≤ 2000) && fewP x.ps
theorem fewC_da {x : CX} (h : fewC x = true) : x.da.2.1 ≤ 2000 := by
  unfold fewC at h
  simp only [Bool.and_eq_true, decide_eq_true_eq] at h
  exact h.1.2
end Go.Proofs.Ythpcblbciidmeaa
