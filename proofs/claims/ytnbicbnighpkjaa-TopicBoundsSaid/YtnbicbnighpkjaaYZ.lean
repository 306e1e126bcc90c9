/- Law 19: no queue is too long: the walk (TopicBounds), for every room. -/
import Derived.Test.YtnbicbnighpkjaaYW
import Derived.Test.YtnbicbnighpkjaaYX
import Derived.Test.YtnbicbnighpkjaaYY
namespace Go.Proofs.Ytnbicbnighpkjaa
open Go.RowKit Go.Maps
set_option linter.unusedVariables false
theorem topicBounds_walk (a : Int) (A : Option Addr) (n c : Nat) (l : List TO) (w : World) (ha : (Lit.int .i64 a).wf = true) (hZ : TSt w A n c l) :
    Calls Try.prog 4 #[.int .i64 a, .slice A n c] w fun e w' => e = .returned (.bool true) ∧ Below w.heap.size w w' := by
  by_cases h1 : a < 1
  · exact topicBounds_low a A n c l w hZ h1
  · by_cases h2 : (64 : Int) < a
    · exact topicBounds_high a A n c l w hZ ⟨h1, h2⟩
    · exact topicBounds_mid a A n c l w hZ ⟨h1, h2⟩
end Go.Proofs.Ytnbicbnighpkjaa
